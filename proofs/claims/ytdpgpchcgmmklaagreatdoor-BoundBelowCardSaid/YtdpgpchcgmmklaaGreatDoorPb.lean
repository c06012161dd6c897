import Derived.Test.YtdpgpchcgmmklaaGreatDoorPa
import Derived.Laws.AppendOwn
import Derived.Laws.OwnMore
import Derived.Deep.DeepCutAuto
import Derived.Deep.QuietTactic
import Derived.BigQuiet
import Derived.Deep.CutBlock
import Derived.ChangeSame
import Derived.Lib.MinMax
namespace Go.Proofs.YtdpgpchcgmmklaaGreatDoor
open Go Go.RowKit
set_option maxRecDepth 100000
theorem undSS : Tryz.prog.underlying 64 = some (.slice 9) := by kernel_rfl
theorem infoStr : (Tryz.prog.info? 9).map (fun i => (i.zero, i.size, i.bytes)) = some (some (.string { data := #[] }), 1, 16) := by kernel_rfl
theorem appSP {ops : Array Oper} {rest : List Oper} {Q : Exit -> Act -> World -> Prop} {a : Act} {w : World} {d : Option Tmp} {s u : Tmp} {ty : TypeId} {pos : String} {af : Array Edge} {b n base : Nat} {v : Value} {xs : List Value} {op : ByteArray}
   (hs : a.eval (.tmp s) = v) (hu : a.eval (.tmp u) = .slice (some ⟨b, 0, none⟩) 1 1) (hB : w.cell? ⟨b, 0, none⟩ = some (.string op)) (hown : w.ownsRow base 9 1 v n xs) (hbase : base <= w.heap.size) (hn : n < 1000000)
   (h : ∀ v' w', w'.ownsRow base 9 1 v' (n + 1) (xs ++ [.string op]) -> Below base w w' -> wpList Tryz.prog ops Q rest (a.put d v') w') :
   wpList Tryz.prog ops Q ({ dst := d, op := .call { callee := .builtin .append, args := #[.tmp s, .tmp u], argTypes := #[64, 64] }, type := ty, pos := pos, after := af, guard := none } :: rest) a w := by
 obtain ⟨i0, hi0, he⟩ := Option.map_eq_some_iff.1 infoStr
 simp only [Prod.mk.injEq] at he
 have hlt := hown.lt
 refine wpList_append_own w rfl _ _ 64 rfl base 9 i0 (.string { data := #[] }) 1 16 undSS hi0 he.1 he.2.1 he.2.2 rfl (by decide) v n xs hs hown ⟨b, 0, none⟩ 1 1 [.string op] hu rfl ?_ ?_ (by unfold maxLen; omega) (by omega) hbase ?_
 ·intro j x hj
  cases j with
  | zero => simp only [List.getElem?_cons_zero, Option.some.injEq] at hj; subst hj; exact hB
  | succ j => simp at hj
 ·intro x hx; simp at hx; subst hx; rfl
 ·intro v' w' h1 h2 _
  refine h v' w' h1 ⟨h2.os, h2.tape, h2.output, h2.size, fun k hk => h2.block k (by omega) ?_⟩
  intro e
  have := hlt k e.symm
  omega
theorem _root_.Go.World.ownsRow.up {w w' : World} {base : Nat} {e : TypeId} {size : Nat} {v : Value} {n : Nat} {xs : List Value} (h : w.ownsRow base e size v n xs) (hu : Up w w') : w'.ownsRow base e size v n xs := by
 refine ⟨h.1, ?_⟩
 rcases h.2 with h2 | ⟨g, cap, cur, h1, h2, h3, h4⟩
 ·exact .inl h2
 ·exact .inr ⟨g, cap, cur, h1, h2, hu.row h3, h4⟩
set_option maxHeartbeats 4000000 in
theorem ops_any {e : Er} {v : Value} {w : World} (h : IsEr w v e) (hn : e.ops.length < 1000000) :
   Calls Tryz.prog 32 #[v] w fun r w' => ∃ s, r = .returned s /\ Up w w' /\ w'.ownsRow w.heap.size 9 1 s e.ops.length (e.ops.map Value.string) := by
 have HO := hid (fun w' (hu : Up w w') => out_any h hu)
 obtain ⟨l, hl⟩ : ∃ l, e.ops = l := ⟨_, rfl⟩
 rw [hl] at HO hn ⊢
 clear h hl
 go_enter Tryz.func32, Tryz.ntmps32
 go_wp2_with (first | (go_at_call 53; (with_reducible refine (HO.out _ (Up.refl _)).mono ?_); rintro r wA ⟨p, rfl, huA, hA⟩))
 go_loopg [3, 4] l.length (fun k ts tp wr => ∃ d r : List ByteArray, d ++ r = l /\ r.length <= k /\ wr.ownsRow w.heap.size 9 1 ts d.length (d.map Value.string) /\ Out w tp r /\ Up w wr)
 case atStart => exact ⟨[], l, rfl, Nat.le_refl _, World.ownsRow_nil _ _ _ _, hA, huA⟩
 case round =>
  clear hA huA
  obtain ⟨d, r, hdr, hrk, hown, hO, hu⟩ := hrel
  cases r with
  | nil =>
    simp only [Out] at hO
    subst hO
    rw [List.append_nil] at hdr
    subst hdr
    have HW := hid hown
    clear hown
    go_wp2_with fail
    go_ret
    exact ⟨_, rfl, hu, HW.out⟩
  | cons op r =>
    obtain ⟨b, u, rfl, hB, h3⟩ := hO
    have hsz := hu.size
    have hc0 := (hB.up hu).cell 0 rfl
    have hdl : d.length + (r.length + 1) = l.length := by rw [<- hdr]; simp
    have hr1 : r.length + 1 <= gk := hrk
    have HDR := hid (show (d ++ [op]) ++ r = l by rw [<- hdr]; simp)
    clear hdr hrk
    rcases h3 with ⟨rfl, rfl⟩ | ⟨x, hx, rfl⟩
    ·go_wp2_with (first | ((with_reducible apply appSP (op := op)); exact rfl; exact rfl; (focus (simp; done)); exact hown.alloc _; (focus (simp; omega)); omega; rintro v' w' h1 h2; have hu2 : Up w w' := Below.trans (hu.trans (Up.alloc _ _)) h2; have hc1 := (hB.up hu2).cell 1 rfl) | (go_at_call 53; (with_reducible refine (out_nil _).mono ?_); rintro r wB ⟨rfl, huB⟩))
     go_roundg 0
     case measure => omega
     case rel => exact ⟨d ++ [op], [], HDR.out, Nat.le_refl _, by simpa using h1.up huB, rfl, hu2.trans huB⟩
    ·have HO2 := hid (fun w' (hu : Up w w') => out_any hx hu)
     go_wp2_with (first | ((with_reducible apply appSP (op := op)); exact rfl; exact rfl; (focus (simp; done)); exact hown.alloc _; (focus (simp; omega)); omega; rintro v' w' h1 h2; have hu2 : Up w w' := Below.trans (hu.trans (Up.alloc _ _)) h2; have hc1 := (hB.up hu2).cell 1 rfl) | (go_at_call 53; (with_reducible refine (HO2.out _ hu2).mono ?_); rintro r wB ⟨p, rfl, huB, hOB⟩))
     go_roundg x.ops.length
     case measure => omega
     case rel => exact ⟨d ++ [op], x.ops, HDR.out, Nat.le_refl _, by simpa using h1.up huB, hOB, hu2.trans huB⟩
theorem tri_def (n : Int) : tri n = n * (n + 1) / 2 := rfl
set_option maxHeartbeats 2000000 in
theorem rright_any {v : Value} {N : Int} {l : List Int} {w : World} (h : Sm w v N l) :
   Calls Tryz.prog 27 #[v] w fun e w' => e = .returned (.bool (rt N l)) /\ Up w w' := by
 obtain ⟨s, rfl, ⟨p, cap, rfl, hcap, hc⟩, hN, hl, hlen⟩ := h
 unfold I64 at hN
 by_cases hb : 0 <= N /\ N <= 8
 ·obtain ⟨b1, b2⟩ := hb
  have d1 : decide (N < 0) = false := decide_eq_false (by omega)
  have d2 : decide (8 < N) = false := decide_eq_false (by omega)
  have ⟨m1, m2⟩ := tri_mul b1 b2
  obtain ⟨T2, hT2⟩ : ∃ p, N * (N + 1) = p := ⟨_, rfl⟩
  have hm : IntKind.i64.wrap (N * (N + 1)) = T2 := by rw [hT2]; rw [hT2] at m1 m2; exact IntWalk.i64_in _ (by omega)
  have htr := tri_def N
  rw [hT2] at m1 m2 htr
  by_cases hT : (l.length : Int) = T2 / 2
  ·have hR := rt_yes ⟨b1, b2, by rw [htr]; exact hT⟩
   have d3 : ((l.length : Int) != T2 / 2) = false := by rw [hT]; simp
   have HL := hid hl
   have HC := hid (fun w' (hu : Up w w') (i : Nat) (hi : i < l.length) => (show ∃ a, p = some a /\ w'.cell? (a.add i) = some (.int .i64 (zth l i)) from by obtain ⟨a, h1, h2⟩ := hc i hi; exact ⟨a, h1, hu.cellEq h2⟩))
   rw [hR]
   obtain ⟨n, hn⟩ : ∃ n, l.length = n := ⟨_, rfl⟩
   have HN := hid hn
   rw [hn] at d3 HC hlen ⊢
   clear hR hl hc hT hcap hn hT2 htr
   go_enter Tryz.func27, Tryz.ntmps27
   go_wp2_with fail
   go_loop [3] (fun ti => ∃ k : Nat, k <= n /\ ti = .int .i64 (k : Nat) /\ Hid (∀ j, j < k -> fit (zth l j) = true)) (fun ti => n - (intOf ti).toNat)
   case atStart => exact ⟨0, Nat.zero_le _, rfl, hid (fun j hj => absurd hj (Nat.not_lt_zero _))⟩
   case round =>
    clear d1 d2 d3 hm
    obtain ⟨k, hk, rfl, HA⟩ := hrel
    by_cases hlt : k < n
    ·have e1 : IntKind.i64.wrap ((k : Int) + 1) = (k : Int) + 1 := IntWalk.i64_in _ (by omega)
     obtain ⟨a, rfl, hcell⟩ := HC.out _ (Up.alloc w (.cells #[.int .i64 N, .slice p n cap] 24)) k hlt
     cases hf : fit (zth l k) with
     | true =>
       have Hf := hid hf
       have ⟨f1, f2⟩ := of_decide_eq_true hf
       have q1 : decide (1073741824 < zth l k) = false := decide_eq_false (by omega)
       have q2 : decide (zth l k < -1073741824) = false := decide_eq_false (by omega)
       clear hf f1 f2
       go_wp2_with fail
       go_round
       case measure => simp [intOf]; omega
       case rel => exact ⟨k + 1, by omega, by go_num, hid (fun j hj => by rcases Nat.lt_succ_iff_lt_or_eq.1 hj with h | h; exact HA.out j h; rw [h]; exact Hf.out)⟩
     | false =>
       have Hf := hid (all_no (by rw [HN.out]; exact hlt) hf)
       have f1 := of_decide_eq_false hf
       clear hf
       by_cases q : 1073741824 < zth l k
       ·have q1 : decide (1073741824 < zth l k) = true := decide_eq_true q
        clear f1
        go_wp2_with fail
        go_ret
        exact ⟨by rw [Hf.out]; rfl, Up.alloc _ _⟩
       ·have q1 : decide (1073741824 < zth l k) = false := decide_eq_false q
        have q2 : decide (zth l k < -1073741824) = true := decide_eq_true (by omega)
        clear f1
        go_wp2_with fail
        go_ret
        exact ⟨by rw [Hf.out]; rfl, Up.alloc _ _⟩
    ·obtain rfl : k = n := by omega
     have HX := hid (all_yes (by rw [HN.out]; exact HA.out))
     clear hlt hk
     go_wp2_with fail
     go_ret
     exact ⟨by rw [HX.out]; rfl, Up.alloc _ _⟩
  ·rw [rt_no (fun h => hT (by rw [<- htr]; exact h.2.2))]
   have d3 : ((l.length : Int) != T2 / 2) = true := by simpa using hT
   clear hT hl hc htr hT2
   go_enter Tryz.func27, Tryz.ntmps27
   go_wp2_with fail
   go_ret
   exact ⟨rfl, Up.alloc _ _⟩
 ·rw [rt_no (fun h => hb ⟨h.1, h.2.1⟩)]
  by_cases h0 : N < 0
  ·have d1 : decide (N < 0) = true := decide_eq_true h0
   clear hb hl hc
   go_enter Tryz.func27, Tryz.ntmps27
   go_wp2_with fail
   go_ret
   exact ⟨rfl, Up.alloc _ _⟩
  ·have d1 : decide (N < 0) = false := decide_eq_false h0
   have d2 : decide (8 < N) = true := decide_eq_true (by omega)
   clear hb hl hc
   go_enter Tryz.func27, Tryz.ntmps27
   go_wp2_with fail
   go_ret
   exact ⟨rfl, Up.alloc _ _⟩
theorem tri_ge {n : Int} (h0 : 0 <= n) (h8 : n <= 8) : n <= tri n := by
 rcases nine h0 h8 with rfl | rfl | rfl | rfl | rfl | rfl | rfl | rfl | rfl <;> decide
theorem tri_mono {m n : Int} (h0 : 0 <= m) (h : m <= n) (h8 : n <= 8) : tri m <= tri n := by
 rcases nine (by omega : 0 <= n) h8 with rfl | rfl | rfl | rfl | rfl | rfl | rfl | rfl | rfl <;> rcases nine h0 (by omega) with rfl | rfl | rfl | rfl | rfl | rfl | rfl | rfl | rfl <;> first | decide | omega
theorem idx_in {n i j : Int} (h8 : n <= 8) (i0 : 0 <= i) (i1 : i < n) (j0 : 0 <= j) (j1 : j < n) : 0 <= idx n i j /\ idx n i j < tri n := by
 have a := tri_ge (n := n - min i j) (by omega) (by omega)
 have b := tri_mono (m := n - min i j) (n := n) (by omega) (by omega) h8
 unfold idx
 omega
theorem idx_at {n i : Int} (h8 : n <= 8) (i0 : 0 <= i) (i1 : i < n) : i * n - i * (i - 1) / 2 = tri n - tri (n - i) := by
 rcases nine (by omega : 0 <= n) h8 with rfl | rfl | rfl | rfl | rfl | rfl | rfl | rfl | rfl <;> rcases nine i0 (by omega) with rfl | rfl | rfl | rfl | rfl | rfl | rfl | rfl | rfl <;> first | decide | omega
theorem idx_any (n i j : Int) (h8 : n <= 8) (i0 : 0 <= i) (i1 : i < n) (j0 : 0 <= j) (j1 : j < n) (w : World) :
   Calls Tryz.prog 69 #[.int .i64 n, .int .i64 i, .int .i64 j] w fun e w' => e = .returned (.int .i64 (idx n i j)) /\ w' = w := by
 have ⟨x1, x2⟩ := idx_in h8 i0 i1 j0 j1
 have ⟨t1, t2⟩ := tri_le (n := n) (by omega) h8
 have HE := hid (fun w => entries_any n (by omega) h8 w)
 by_cases hij : j < i
 ·have ⟨t3, t4⟩ := tri_le (n := n - j) (by omega) (by omega)
  have HF := hid (fun w => entries_any (n - j) (by omega) (by omega) w)
  have e : idx n i j = tri n - tri (n - j) + i - j := by unfold idx; rw [show min i j = j by omega, show max i j = i by omega]
  rw [e]
  clear e x1 x2
  generalize tri n = T at *
  generalize tri (n - j) = T' at *
  go_enter Tryz.func69, Tryz.ntmps69
  go_wp2_with (first | (go_at_call 41; first | ((with_reducible refine (HE.out _).mono ?_); rintro e w' ⟨rfl, rfl⟩) | ((with_reducible refine (HF.out _).mono ?_); rintro e w' ⟨rfl, rfl⟩)))
  go_ret
  exact ⟨rfl, rfl⟩
 ·have ⟨t3, t4⟩ := tri_le (n := n - i) (by omega) (by omega)
  have HF := hid (fun w => entries_any (n - i) (by omega) (by omega) w)
  have e : idx n i j = tri n - tri (n - i) + j - i := by unfold idx; rw [show min i j = i by omega, show max i j = j by omega]
  rw [e]
  clear e x1 x2
  generalize tri n = T at *
  generalize tri (n - i) = T' at *
  go_enter Tryz.func69, Tryz.ntmps69
  go_wp2_with (first | (go_at_call 41; first | ((with_reducible refine (HE.out _).mono ?_); rintro e w' ⟨rfl, rfl⟩) | ((with_reducible refine (HF.out _).mono ?_); rintro e w' ⟨rfl, rfl⟩)))
  go_ret
  exact ⟨rfl, rfl⟩
theorem at_pre {n i : Int} (h8 : n <= 8) (i0 : 0 <= i) (i1 : i < n) : 0 <= i * n /\ i * n <= 64 /\ 0 <= i * (i - 1) /\ i * (i - 1) <= 64 := by
 rcases nine (by omega : 0 <= n) h8 with rfl | rfl | rfl | rfl | rfl | rfl | rfl | rfl | rfl <;> rcases nine i0 (by omega) with rfl | rfl | rfl | rfl | rfl | rfl | rfl | rfl | rfl <;> first | decide | omega
theorem rat_any (n i j : Int) (h8 : n <= 8) (i0 : 0 <= i) (i1 : i < n) (j0 : 0 <= j) (j1 : j < n) (w : World) :
   Calls Tryz.prog 40 #[.int .i64 n, .int .i64 i, .int .i64 j] w fun e w' => e = .returned (.int .i64 (idx n i j)) /\ w' = w := by
 by_cases hij : j < i
 ·have ⟨p1, p2, p3, p4⟩ := at_pre h8 j0 j1
  have e : idx n i j = j * n - j * (j - 1) / 2 + i - j := by unfold idx; rw [show min i j = j by omega, show max i j = i by omega, idx_at h8 j0 j1]
  rw [e]
  obtain ⟨P, hP⟩ : ∃ P, j * n = P := ⟨_, rfl⟩
  obtain ⟨R, hR⟩ : ∃ R, j * (j - 1) = R := ⟨_, rfl⟩
  have m1 : IntKind.i64.wrap (j * n) = P := by rw [hP]; rw [hP] at p1 p2; exact IntWalk.i64_in _ (by omega)
  have m2 : IntKind.i64.wrap (j * (j - 1)) = R := by rw [hR]; rw [hR] at p3 p4; exact IntWalk.i64_in _ (by omega)
  rw [hP, hR]
  rw [hP] at p1 p2; rw [hR] at p3 p4
  clear e hP hR
  go_enter Tryz.func40, Tryz.ntmps40
  go_wp2_with fail
  go_ret
  exact ⟨rfl, rfl⟩
 ·have ⟨p1, p2, p3, p4⟩ := at_pre h8 i0 i1
  have e : idx n i j = i * n - i * (i - 1) / 2 + j - i := by unfold idx; rw [show min i j = i by omega, show max i j = j by omega, idx_at h8 i0 i1]
  rw [e]
  obtain ⟨P, hP⟩ : ∃ P, i * n = P := ⟨_, rfl⟩
  obtain ⟨R, hR⟩ : ∃ R, i * (i - 1) = R := ⟨_, rfl⟩
  have m1 : IntKind.i64.wrap (i * n) = P := by rw [hP]; rw [hP] at p1 p2; exact IntWalk.i64_in _ (by omega)
  have m2 : IntKind.i64.wrap (i * (i - 1)) = R := by rw [hR]; rw [hR] at p3 p4; exact IntWalk.i64_in _ (by omega)
  rw [hP, hR]
  rw [hP] at p1 p2; rw [hR] at p3 p4
  clear e hP hR
  go_enter Tryz.func40, Tryz.ntmps40
  go_wp2_with fail
  go_ret
  exact ⟨rfl, rfl⟩
def symB : ByteArray := { data := #[115, 121, 109] }
theorem wrong_any (n : Int) (w : World) :
   Calls Tryz.prog 67 #[.int .i64 n] w fun r w' => ∃ t u, r = .returned (.iface t u) /\ Up w w' /\ IsEr w' (.iface t u) (.flt symB (.num n)) := by
 have HW := hid (fun w => wrap_any (op := { data := #[115, 121, 109] }) (v := .iface 66 (.int .i64 n)) (e := .num n) (w := w) rfl)
 go_enter Tryz.func67, Tryz.ntmps67
 go_wp2_with (first | (go_at_call 56; (with_reducible refine (HW.out _).mono ?_); rintro r w1 ⟨u1, rfl, hu1, h1⟩))
 go_ret
 obtain ⟨t, u, rfl⟩ := h1.iface
 exact ⟨t, u, rfl, hu1, h1⟩
section
variable {P : Program} {o : Oper} {a : Act} {x y : Operand} {t u : TypeId}
theorem op_shr (ho : o.op = .binOp .shr t x y u) {X s : Nat} (hx : a.eval x = .int .u64 (X : Nat)) (hy : a.eval y = .int .u64 (s : Nat)) (hs : s <= 64) (w : World) :
   (execOp a.eval o).run P w = .ok (.value (.int .u64 ((X / 2 ^ s : Nat) : Int))) w := by
 unfold execOp
 simp only [ho, hx, hy, eqGuard, binOp, shift_shr .u64 .u64 (X : Int) (s : Int) (by omega) (show (s : Int) <= 64 by omega)]
 simp
theorem op_shl (ho : o.op = .binOp .shl t x y u) {X s : Nat} (hx : a.eval x = .int .u64 (X : Nat)) (hy : a.eval y = .int .u64 (s : Nat)) (hs : s <= 64) (w : World) :
   (execOp a.eval o).run P w = .ok (.value (.int .u64 ((X * 2 ^ s % 18446744073709551616 : Nat) : Int))) w := by
 unfold execOp
 simp only [ho, hx, hy, eqGuard, binOp, shift_shl .u64 .u64 (X : Int) (s : Int) (by omega) (show (s : Int) <= 64 by omega), IntKind.wrap_u64]
 simp
theorem op_or (ho : o.op = .binOp .or t x y u) {X Y : Nat} (hx : a.eval x = .int .u64 (X : Nat)) (hy : a.eval y = .int .u64 (Y : Nat)) (hX : X < 18446744073709551616) (hY : Y < 18446744073709551616) (w : World) :
   (execOp a.eval o).run P w = .ok (.value (.int .u64 ((X ||| Y : Nat) : Int))) w := by
 unfold execOp
 simp only [ho, hx, hy, eqGuard, binOp, intBits_or, bits_or_u64_nat X Y hX hY]
 simp
theorem op_sub (ho : o.op = .binOp .sub t x y u) {X Y : Nat} (hx : a.eval x = .int .u64 (X : Nat)) (hy : a.eval y = .int .u64 (Y : Nat)) (hX : X < 18446744073709551616) (hY : Y <= X) (w : World) :
   (execOp a.eval o).run P w = .ok (.value (.int .u64 ((X - Y : Nat) : Int))) w := by
 have e : IntKind.u64.wrap ((X : Int) - (Y : Int)) = ((X - Y : Nat) : Int) := by rw [IntKind.wrap_u64]; omega
 unfold execOp
 simp only [ho, hx, hy, eqGuard, binOp, Op.intArith, e]
 simp
end
theorem or_add {X Y s : Nat} (hY : Y < 2 ^ s) : (2 ^ s * X) ||| Y = 2 ^ s * X + Y := (Nat.two_pow_add_eq_or_of_lt hY X).symm
theorem shl_mod {x s : Nat} (hs : s <= 64) : x * 2 ^ s % 18446744073709551616 = 2 ^ s * (x % 2 ^ (64 - s)) := by
 have e : (18446744073709551616 : Nat) = 2 ^ s * 2 ^ (64 - s) := by rw [<- Nat.pow_add, show s + (64 - s) = 64 by omega]
 rw [e, Nat.mul_comm x, Nat.mul_mod_mul_left]
theorem shr_low {x s : Nat} (hs : s <= 64) : x * 2 ^ s / 18446744073709551616 = x / 2 ^ (64 - s) := by
 have e : (18446744073709551616 : Nat) = 2 ^ s * 2 ^ (64 - s) := by rw [<- Nat.pow_add, show s + (64 - s) = 64 by omega]
 rw [e, Nat.mul_comm x, Nat.mul_div_mul_left _ _ (Nat.two_pow_pos s)]
def rsh (f : Nat -> Nat) (s i : Nat) : Nat := f i / 2 ^ s + 2 ^ (64 - s) * (f (i + 1) % 2 ^ s)
theorem rsh_or {x y s : Nat} (hs : s <= 64) (hx : x < 18446744073709551616) : x / 2 ^ s ||| y * 2 ^ (64 - s) % 18446744073709551616 = x / 2 ^ s + 2 ^ (64 - s) * (y % 2 ^ s) := by
 rw [shl_mod (show 64 - s <= 64 by omega), show 64 - (64 - s) = s by omega, Nat.or_comm, or_add, Nat.add_comm]
 rw [Nat.div_lt_iff_lt_mul (Nat.two_pow_pos s), <- Nat.pow_add, show 64 - s + s = 64 by omega]
 exact hx
theorem rsh_lt {f : Nat -> Nat} {s i : Nat} (hs : s <= 64) (h : f i < 18446744073709551616) : rsh f s i < 18446744073709551616 := by
 have h1 : f i / 2 ^ s < 2 ^ (64 - s) := by
  rw [Nat.div_lt_iff_lt_mul (Nat.two_pow_pos s), <- Nat.pow_add, show 64 - s + s = 64 by omega]
  exact h
 have h2 := Nat.mod_lt (f (i + 1)) (Nat.two_pow_pos s)
 have h3 : 2 ^ (64 - s) * (f (i + 1) % 2 ^ s + 1) <= 2 ^ (64 - s) * 2 ^ s := Nat.mul_le_mul_left _ h2
 rw [<- Nat.pow_add, show 64 - s + s = 64 by omega, Nat.mul_add] at h3
 unfold rsh
 omega
theorem rsh_sum (f : Nat -> Nat) {s : Nat} (hs : s <= 64) (k : Nat) : 2 ^ s * sumL (rsh f s) k + f 0 % 2 ^ s = sumL f k + f k % 2 ^ s * bp k := by
 induction k with
 | zero => rw [sumL_zero, sumL_zero, bp_zero]; omega
 | succ k ih =>
   have e : 2 ^ s * 2 ^ (64 - s) = (18446744073709551616 : Nat) := by rw [<- Nat.pow_add, show s + (64 - s) = 64 by omega]
   have h1 := Nat.div_add_mod (f k) (2 ^ s)
   rw [sumL_succ, sumL_succ, bp_succ]
   unfold rsh at *
   generalize f (k + 1) % 2 ^ s = t at *
   generalize f k / 2 ^ s = u at *
   generalize f k % 2 ^ s = v at *
   generalize f 0 % 2 ^ s = z at *
   generalize 2 ^ (64 - s) = q at *
   generalize 2 ^ s = p at *
   generalize sumL (fun i => _) k = S at *
   generalize sumL f k = F at *
   generalize bp k = b at *
   rw [<- h1]
   grind
theorem rsh_num {f : Nat -> Nat} {s : Nat} (hs : s <= 64) {n : Nat} (hf : ∀ i, i < n + 1 -> f i < 18446744073709551616) : sumL (rsh f s) n = sumL f (n + 1) / 2 ^ s % bp n := by
 have h := rsh_sum f hs n
 have h1 := Nat.div_add_mod (f n) (2 ^ s)
 have h2 := Nat.mod_lt (f 0) (Nat.two_pow_pos s)
 have h3 := sumL_lt (f := rsh f s) (k := n) fun i hi => rsh_lt hs (hf i (by omega))
 have e : sumL f (n + 1) = f 0 % 2 ^ s + 2 ^ s * (sumL (rsh f s) n + f n / 2 ^ s * bp n) := by
  rw [sumL_succ]
  generalize f n / 2 ^ s = u at *
  generalize f n % 2 ^ s = v at *
  generalize f 0 % 2 ^ s = z at *
  generalize 2 ^ s = p at *
  rw [<- h1]
  grind
 rw [e, Nat.add_mul_div_left _ _ (Nat.two_pow_pos s), Nat.div_eq_of_lt h2, Nat.zero_add, Nat.add_mul_mod_self_right, Nat.mod_eq_of_lt h3]
theorem undL : Tryz.prog.underlying 155 = some (.array 17 76) := by kernel_rfl
theorem infoL : (Tryz.prog.info? 155).map (·.size) = some 17 := by kernel_rfl
def longV (f : Nat -> Nat) : Value := .agg (cells 17 f)
set_option maxHeartbeats 1000000 in
theorem right_any (f : Nat -> Nat) (hf : ∀ i, i < 17 -> f i < 18446744073709551616) (s : Nat) (hs : s < 64) (w : World) :
   Calls Tryz.prog 95 #[longV f, .int .u64 (s : Nat)] w fun e w' => e = .returned (wideV (sumL f 17 / 2 ^ s % bp 16)) /\ Up w w' := by
 rw [<- rsh_num (by omega) hf]
 have hrl : ∀ i, i < 16 -> rsh f s i < 18446744073709551616 := fun i hi => rsh_lt (by omega) (hf i (by omega))
 rw [<- wide_of hrl]
 unfold longV
 go_enter Tryz.func95, Tryz.ntmps95
 go_wp2
 go_loopw [7] (fun i wr => ∃ (k : Nat) (g : Nat -> Nat), k <= 16 /\ i = .int .i64 k /\ (∀ i, i < k -> g i = rsh f s i) /\
    Row wr w.heap.size 155 17 f /\ Row wr (w.heap.size + 1) 78 16 (fun _ => 0) /\ Row wr (w.heap.size + 1 + 1) 78 16 g /\ Below w.heap.size w wr)
  (fun i _ => 16 - (intOf i).toNat)
 case atStart => exact ⟨0, fun _ => 0, by omega, rfl, fun i h => by omega, row_alloc (row_alloc (row_newc _ 17 _ rfl)), gRow, gRow, gUp⟩
 case round =>
  obtain ⟨k, g, hk, rfl, hg, hX, hR, hM, hB⟩ := hrel
  have Hg := hid hg
  have Hf := hid hf
  have Hrl := hid hrl
  clear hg hf hrl
  by_cases hlt : k < 16
  ·have hcx := hX.cell k (by omega)
   have hcy := hX.cell (k + 1) (by omega)
   have hf1 := Hf.out k (by omega)
   have hf2 := Hf.out (k + 1) (by omega)
   have hq : f k / 2 ^ s < 18446744073709551616 := Nat.lt_of_le_of_lt (Nat.div_le_self _ _) hf1
   have HO : Hid (f k / 2 ^ s ||| f (k + 1) * 2 ^ (64 - s) % 18446744073709551616 = rsh f s k) := hid (rsh_or (y := f (k + 1)) (show s <= 64 by omega) hf1)
   have hk1 : (k : Int) < 17 := by omega
   have hk2 : (k : Int) + 1 < 17 := by omega
   have hk3 : (0 : Int) <= (k : Int) + 1 := by omega
   have E1 : Hid (IntKind.i64.wrap ((k : Int) + 1) = (k : Int) + 1) := hid (IntWalk.i64_in _ (by omega))
   have E2 : Hid (((k : Int) + 1).toNat = k + 1) := hid (by omega)
   go_wp2
   refine opU (S := (fun wq => Row wq w.heap.size 155 17 f /\ Row wq (w.heap.size + 1) 78 16 (fun _ => 0) /\ Row wq (w.heap.size + 1 + 1) 78 16 g /\ wq.cell? ⟨w.heap.size, k, none⟩ = some (.int .u64 (f k : Nat)) /\ wq.cell? ⟨w.heap.size, k + 1, none⟩ = some (.int .u64 (f (k + 1) : Nat)) /\ Below w.heap.size w wq)) (req := (fun j => j != 15)) (fun _ _ h hu => ⟨(h.1).up hu, (h.2.1).up hu, (h.2.2.1).up hu, hu.cell (h.2.2.2.1), hu.cell (h.2.2.2.2.1), below_up (h.2.2.2.2.2) hu⟩) ⟨gRow, gRow, gRow, (by first | assumption | (apply Blk.cell; exact gBlk; exact rfl)), (by first | assumption | (apply Blk.cell; exact gBlk; exact rfl)), gUp⟩ (fun wS hSS hSu => ?_)
   have ⟨hS1, hS2, hS3, hS4, hS5, hSB⟩ := hSS
   clear hcx hcy hX hR hM hB
   refine tkP 0 (some 10) hSu ?_
   refine tkP 1 (some 11) hSu ?_
   refine tkP 2 (some 12) hSu ?_
   refine tkT 3 (some 13) rfl hSu hSS ?_ (hy := fun w' hSw => by ((try dsimp only at hSw); (try obtain ⟨_, _, _, _, _, _⟩ := hSw); go_simp; (try exact rfl)))
   refine tkP 4 (some 14) hSu ?_
   refine tkT 5 (some 15) rfl hSu hSS ?_ (hy := fun w' hSw => op_shr rfl rfl rfl (by omega) _)
   refine tkP 6 (some 16) hSu ?_
   refine tkT 7 (some 17) rfl hSu hSS ?_ (hy := fun w' hSw => by (have e1 := E1.out; go_simp; (try exact rfl)))
   refine tkT 8 (some 18) rfl hSu hSS ?_ (hy := fun w' hSw => by (have e2 := E2.out; go_simp; (try exact rfl)))
   refine tkT 9 (some 19) rfl hSu hSS ?_ (hy := fun w' hSw => by ((try dsimp only at hSw); (try obtain ⟨_, _, _, _, _, _⟩ := hSw); go_simp; (try exact rfl)))
   refine tkP 10 (some 20) hSu ?_
   refine tkT 11 (some 21) rfl hSu hSS ?_ (hy := fun w' hSw => op_sub (X := 64) rfl rfl rfl (by decide) (by omega) _)
   refine tkT 12 (some 22) rfl hSu hSS ?_ (hy := fun w' hSw => op_shl rfl rfl rfl (by omega) _)
   refine tkT 13 (some 23) rfl hSu hSS ?_ (hy := fun w' hSw => op_or rfl rfl rfl hq (Nat.mod_lt _ (by decide)) _)
   rw [HO.out]
   refine tkP 14 (some 24) hSu ?_
   refine wpAnyU_one (i := 15) rfl (by kernel_rfl) (by rfl) fun w1 hw1 => ?_
   have hcW := (hS3.up hw1).cell k (by omega)
   have hfW := (hS3.up hw1).frozen k
   go_simp
   clear hcW hfW
   refine wpAnyU_done (by kernel_rfl) (fun wF huE => ?_) _
   have hu := hw1
   have gX := (hS1.up hw1).other ⟨w.heap.size + 1 + 1, k, none⟩ (.int .u64 (rsh f s k : Nat)) (by simp; omega)
   have gR := (hS2.up hw1).other ⟨w.heap.size + 1 + 1, k, none⟩ (.int .u64 (rsh f s k : Nat)) (by simp)
   have gM := (hS3.up hw1).set k (rsh f s k)
   have gB := (below_up hSB hw1).setCell (p := ⟨w.heap.size + 1 + 1, k, none⟩) (by simp; omega) (.int .u64 (rsh f s k : Nat))
   replace gX := gX.up huE
   replace gR := gR.up huE
   replace gM := gM.up huE
   replace gB := below_up gB huE
   clear hS1 hS2 hS3 hS4 hS5 hSB hSS hw1 hu huE
   go_wp2
   go_roundw
   case rel =>
    refine ⟨k + 1, upd g k (rsh f s k), by omega, by go_num, fun i hi => ?_, gX, gR, gM, gB⟩
    by_cases e : i = k
    ·rw [e, upd_same]
    ·rw [upd_other _ _ _ e]; exact Hg.out i (by omega)
   case measure => simp [intOf] <;> omega
  ·obtain rfl : k = 16 := by omega
   replace hM := hM.congr Hg.out
   go_wp2_with (first | ((with_reducible apply ld_rowP undW infoW); exact rfl; exact rfl; exact gRow) | ((with_reducible apply st_rowP infoW); exact rfl; exact rfl; exact gRow) | ((with_reducible apply st_rowZ infoW); exact rfl; exact rfl; exact gRow))
   exact bodyPost_ret (res1 rfl undW infoW _ _ rfl gRow) rfl ⟨rfl, gUp⟩
theorem shrP {P : Program} {t u : TypeId} {ops : Array Oper} {rest : List Oper} {Q : Exit -> Act -> World -> Prop} {a : Act} {w : World} {d : Option Tmp} {p q : Tmp} {ty : TypeId} {pos : String} {af : Array Edge} {gd : Option (Nat × Bool)} {X Y : Nat}
   (hw : Region.wanted { dst := d, op := .binOp .shr t (.tmp p) (.tmp q) u, type := ty, pos := pos, after := af, guard := gd } (yielded ops a.tmps) = true) (hx : a.eval (.tmp p) = .int .u64 (X : Nat)) (hy : a.eval (.tmp q) = .int .u64 (Y : Nat)) (hs : Y <= 64)
   (h : wpList P ops Q rest (a.put d (.int .u64 ((X / 2 ^ Y : Nat) : Int))) w) : wpList P ops Q ({ dst := d, op := .binOp .shr t (.tmp p) (.tmp q) u, type := ty, pos := pos, after := af, guard := gd } :: rest) a w := wpList_run hw (op_shr rfl hx hy hs w) h
theorem sub64P {P : Program} {t u : TypeId} {ops : Array Oper} {rest : List Oper} {Q : Exit -> Act -> World -> Prop} {a : Act} {w : World} {d : Option Tmp} {q : Tmp} {ty : TypeId} {pos : String} {af : Array Edge} {gd : Option (Nat × Bool)} {Y : Nat}
   (hw : Region.wanted { dst := d, op := .binOp .sub t (.const (.int .u64 64)) (.tmp q) u, type := ty, pos := pos, after := af, guard := gd } (yielded ops a.tmps) = true) (hy : a.eval (.tmp q) = .int .u64 (Y : Nat)) (hs : Y <= 64)
   (h : wpList P ops Q rest (a.put d (.int .u64 ((64 - Y : Nat) : Int))) w) : wpList P ops Q ({ dst := d, op := .binOp .sub t (.const (.int .u64 64)) (.tmp q) u, type := ty, pos := pos, after := af, guard := gd } :: rest) a w := wpList_run hw (op_sub (X := 64) rfl rfl hy (by decide) hs w) h
theorem lsh_step {x g s : Nat} (hs : s < 64) (hx : x < 18446744073709551616) (hg : g < 2 ^ s) :
   (g ||| x * 2 ^ s % 18446744073709551616) + x / 2 ^ (64 - s) * 18446744073709551616 = g + x * 2 ^ s /\ x / 2 ^ (64 - s) < 2 ^ s /\ (g ||| x * 2 ^ s % 18446744073709551616) < 18446744073709551616 := by
 have e : 2 ^ s * 2 ^ (64 - s) = (18446744073709551616 : Nat) := by rw [<- Nat.pow_add, show s + (64 - s) = 64 by omega]
 have h1 : (g ||| x * 2 ^ s % 18446744073709551616) = g + x * 2 ^ s % 18446744073709551616 := by
  rw [shl_mod (by omega), Nat.or_comm, or_add hg, Nat.add_comm]
 have h2 := shr_low (x := x) (show s <= 64 by omega)
 have h3 := Nat.div_add_mod (x * 2 ^ s) 18446744073709551616
 have h4 : x / 2 ^ (64 - s) < 2 ^ s := by
  rw [Nat.div_lt_iff_lt_mul (Nat.two_pow_pos _), e]; exact hx
 refine ⟨by rw [h1, <- h2]; omega, h4, ?_⟩
 rw [h1, shl_mod (by omega)]
 have h5 := Nat.mod_lt x (Nat.two_pow_pos (64 - s))
 have h6 : 2 ^ s * (x % 2 ^ (64 - s) + 1) <= 2 ^ s * 2 ^ (64 - s) := Nat.mul_le_mul_left _ h5
 rw [e, Nat.mul_add] at h6
 omega
theorem long_of {f : Nat -> Nat} (h : ∀ i, i < 17 -> f i < 18446744073709551616) : Value.agg (cells 17 f) = longV (limb (sumL f 17)) := by
 unfold longV
 rw [cells_congr fun i hi => (limb_sumL h hi).symm]
theorem zeros17 : (#[.int .u64 0, .int .u64 0, .int .u64 0, .int .u64 0, .int .u64 0, .int .u64 0, .int .u64 0, .int .u64 0, .int .u64 0, .int .u64 0, .int .u64 0, .int .u64 0, .int .u64 0, .int .u64 0, .int .u64 0, .int .u64 0, .int .u64 0] : Array Value) = cells 17 (fun _ => 0) := by
 unfold cells; kernel_rfl
theorem row_newz17 {w : World} {b : Nat} (t : TypeId) (h : b = w.heap.size) : Row (w.alloc (.cells #[.int .u64 0, .int .u64 0, .int .u64 0, .int .u64 0, .int .u64 0, .int .u64 0, .int .u64 0, .int .u64 0, .int .u64 0, .int .u64 0, .int .u64 0, .int .u64 0, .int .u64 0, .int .u64 0, .int .u64 0, .int .u64 0, .int .u64 0] t)) b t 17 (fun _ => 0) :=
 row_new t 17 _ _ h zeros17
set_option maxHeartbeats 1000000 in
theorem left_any (x : Nat) (hx : x < bp 16) (s : Nat) (hs : s < 64) (w : World) :
   Calls Tryz.prog 104 #[wideV x, .int .u64 (s : Nat)] w fun e w' => e = .returned (longV (limb (x * 2 ^ s))) /\ Up w w' := by
 unfold wideV
 go_enter Tryz.func104, Tryz.ntmps104
 go_wp2
 go_loopw [7] (fun i wr => ∃ (k : Nat) (g : Nat -> Nat), k <= 16 /\ i = .int .i64 k /\ (∀ i, i < 17 -> g i < 18446744073709551616) /\ sumL g (k + 1) = sumL (limb x) k * 2 ^ s /\ g k < 2 ^ s /\ (∀ i, k < i -> i < 17 -> g i = 0) /\
    Row wr w.heap.size 78 16 (limb x) /\ Row wr (w.heap.size + 1) 155 17 (fun _ => 0) /\ Row wr (w.heap.size + 1 + 1) 155 17 g /\ Below w.heap.size w wr)
  (fun i _ => 16 - (intOf i).toNat)
 case atStart => exact ⟨0, fun _ => 0, by omega, rfl, fun i h => by simp, by simp [sumL_succ, sumL_zero], Nat.two_pow_pos s, fun _ _ _ => rfl, gRow, row_alloc (row_newz17 _ (by simp)), row_newz17 _ (by simp), gUp⟩
 case round =>
  obtain ⟨k, g, hk, rfl, hg, hsum, hgk, hg0, hX, hR, hM, hB⟩ := hrel
  have Hg := hid hg
  have Hg0 := hid hg0
  have Hsum := hid hsum
  clear hg hsum hg0
  by_cases hlt : k < 16
  ·obtain ⟨r1, e1⟩ : ∃ r1, r1 = g k ||| limb x k * 2 ^ s % 18446744073709551616 := ⟨_, rfl⟩
   obtain ⟨r2, e2⟩ : ∃ r2, r2 = limb x k / 2 ^ (64 - s) := ⟨_, rfl⟩
   have hst := lsh_step hs (limb_lt x k) hgk
   rw [<- e1, <- e2] at hst
   obtain ⟨hst1, hst2, hst3⟩ := hst
   have hr2 : r2 < 18446744073709551616 := by rw [e2]; exact Nat.lt_of_le_of_lt (Nat.div_le_self _ _) (limb_lt x k)
   have He1 := hid e1.symm
   have He2 := hid e2.symm
   have Hst1 := hid hst1
   clear e1 e2 hst1
   have hk1 : (k : Int) < 17 := by omega
   have hk2 : (k : Int) + 1 < 17 := by omega
   have hk3 : (0 : Int) <= (k : Int) + 1 := by omega
   have hgk64 := Hg.out k (by omega)
   have E1 : Hid (IntKind.i64.wrap ((k : Int) + 1) = (k : Int) + 1) := hid (IntWalk.i64_in _ (by omega))
   have E2 : Hid (((k : Int) + 1).toNat = k + 1) := hid (by omega)
   have hcx := hX.cell k (by omega)
   have hcy := hM.cell k (by omega)
   go_wp2
   refine opU (S := (fun wq => Row wq w.heap.size 78 16 (limb x) /\ Row wq (w.heap.size + 1) 155 17 (fun _ => 0) /\ Row wq (w.heap.size + 1 + 1) 155 17 g /\ wq.cell? ⟨w.heap.size, k, none⟩ = some (.int .u64 (limb x k : Nat)) /\ wq.cell? ⟨w.heap.size + 1 + 1, k, none⟩ = some (.int .u64 (g k : Nat)) /\ Below w.heap.size w wq)) (req := (fun j => j != 10)) (fun _ _ h hu => ⟨(h.1).up hu, (h.2.1).up hu, (h.2.2.1).up hu, hu.cell (h.2.2.2.1), hu.cell (h.2.2.2.2.1), below_up (h.2.2.2.2.2) hu⟩) ⟨gRow, gRow, gRow, (by first | assumption | (apply Blk.cell; exact gBlk; exact rfl)), (by first | assumption | (apply Blk.cell; exact gBlk; exact rfl)), gUp⟩ (fun wS hSS hSu => ?_)
   have ⟨hS1, hS2, hS3, hS4, hS5, hSB⟩ := hSS
   clear hcx hcy hX hR hM hB
   refine tkP 0 (some 10) hSu ?_
   refine tkP 1 (some 11) hSu ?_
   refine tkT 2 (some 12) rfl hSu hSS ?_ (hy := fun w' hSw => by ((try dsimp only at hSw); (try obtain ⟨_, _, _, _, _, _⟩ := hSw); go_simp; (try exact rfl)))
   refine tkP 3 (some 13) hSu ?_
   refine tkP 4 (some 14) hSu ?_
   refine tkT 5 (some 15) rfl hSu hSS ?_ (hy := fun w' hSw => by ((try dsimp only at hSw); (try obtain ⟨_, _, _, _, _, _⟩ := hSw); go_simp; (try exact rfl)))
   refine tkP 6 (some 16) hSu ?_
   refine tkT 7 (some 17) rfl hSu hSS ?_ (hy := fun w' hSw => op_shl rfl rfl rfl (Nat.le_of_lt hs) _)
   refine tkT 8 (some 18) rfl hSu hSS ?_ (hy := fun w' hSw => op_or rfl rfl rfl hgk64 (Nat.mod_lt _ (by decide)) _)
   rw [He1.out]
   refine tkP 9 (some 19) hSu ?_
   refine wpAnyU_one (i := 10) rfl (by kernel_rfl) (by rfl) fun w1 hw1 => ?_
   have hcW := (hS3.up hw1).cell k (by omega)
   have hfW := (hS3.up hw1).frozen k
   go_simp
   clear hcW hfW
   refine wpAnyU_done (by kernel_rfl) (fun wF huE => ?_) _
   have gX := ((hS1.up hw1).other ⟨w.heap.size + 1 + 1, k, none⟩ (.int .u64 (r1 : Nat)) (by simp; omega)).up huE
   have gR := ((hS2.up hw1).other ⟨w.heap.size + 1 + 1, k, none⟩ (.int .u64 (r1 : Nat)) (by simp)).up huE
   have gM := ((hS3.up hw1).set k r1).up huE
   have gB := below_up ((below_up hSB hw1).setCell (p := ⟨w.heap.size + 1 + 1, k, none⟩) (by simp; omega) (.int .u64 (r1 : Nat))) huE
   clear hS1 hS2 hS3 hS4 hS5 hSB hSS hw1 huE
   have hcx := gX.cell k (by omega)
   have hcy := gM.cell (k + 1) (by omega)
   have hfy := gM.frozen (k + 1)
   have fX := gX.other ⟨w.heap.size + 1 + 1, k + 1, none⟩ (.int .u64 (r2 : Nat)) (by simp; omega)
   have fR := gR.other ⟨w.heap.size + 1 + 1, k + 1, none⟩ (.int .u64 (r2 : Nat)) (by simp)
   have fM := gM.set (k + 1) r2
   have fB := gB.setCell (p := ⟨w.heap.size + 1 + 1, k + 1, none⟩) (by simp; omega) (.int .u64 (r2 : Nat))
   have hs' := Nat.le_of_lt hs
   have hs64 : 64 - s <= 64 := Nat.sub_le _ _
   go_wp2_with (first | ((with_reducible apply sub64P); exact rfl; exact rfl; exact hs') | ((with_reducible apply shrP); exact rfl; exact rfl; exact rfl; exact hs64; rw [He2.out]))
   go_roundw
   case rel =>
    refine ⟨k + 1, upd (upd g k r1) (k + 1) r2, by omega, by go_num, upd_lt (upd_lt Hg.out hst3) hr2, ?_, by rw [upd_same]; exact hst2, fun i h1 h2 => by rw [upd_other _ _ _ (by omega), upd_other _ _ _ (by omega)]; exact Hg0.out i (by omega) h2, fX, fR, fM, fB⟩
    have h1 := Hsum.out
    have h2 := Hst1.out
    rw [sumL_succ] at h1
    rw [sumL_upd_succ, sumL_upd_succ, sumL_succ, Nat.add_mul, <- h1, bp_succ]
    have h3 : (r1 + r2 * 18446744073709551616) * bp k = (g k + limb x k * 2 ^ s) * bp k := by rw [h2]
    clear h1 h2 Hsum Hst1 He1 He2 hst2 hgk
    generalize limb x k = xk at *
    generalize g k = gk at *
    generalize bp k = b at *
    generalize 2 ^ s = p at *
    generalize sumL g k = S at *
    grind
   case measure => simp [intOf] <;> omega
  ·obtain rfl : k = 16 := by omega
   have hfin := Hsum.out
   rw [sumL_limb, Nat.mod_eq_of_lt hx] at hfin
   have hfin2 := hid hfin
   clear hfin
   go_wp2_with (first | ((with_reducible apply ld_rowP undL infoL); exact rfl; exact rfl; exact hM) | ((with_reducible apply st_rowP infoL); exact rfl; exact rfl; exact hR))
   exact bodyPost_ret (res1 rfl undL infoL _ _ rfl (hR.setRow g)) rfl ⟨by rw [<- hfin2.out, <- long_of Hg.out], gUp⟩
theorem sumL_upd (f : Nat -> Nat) {k n : Nat} (v : Nat) (h : k < n) : sumL (upd f k v) n + f k * bp k = sumL f n + v * bp k := by
 induction n with
 | zero => omega
 | succ n ih =>
   rw [sumL_succ, sumL_succ]
   by_cases e : k = n
   ·subst e
    rw [sumL_upd_above f (Nat.le_refl k), upd_same]
    omega
   ·have := ih (by omega)
    rw [upd_other f k v (show n ≠ k by omega)]
    omega
theorem times_step {S P X sk yk r c c' b bi bk : Nat} {S' : Nat} (h : S + c * (bi * bk) = P + X * bi * b) (hu : S' + sk * (bi * bk) = S + r * (bi * bk)) (hr : r + c' * 18446744073709551616 = X * yk + sk + c) :
   S' + c' * (bi * bk * 18446744073709551616) = P + X * bi * (b + yk * bk) := by
 have h2 : (r + c' * 18446744073709551616) * (bi * bk) = (X * yk + sk + c) * (bi * bk) := by rw [hr]
 have h3 : S' + c' * (bi * bk * 18446744073709551616) + sk * (bi * bk) = P + X * bi * (b + yk * bk) + sk * (bi * bk) := by grind
 omega
theorem step_up (x y a b : Nat) (hx : x < 18446744073709551616) (hy : y < 18446744073709551616) (ha : a < 18446744073709551616) (hb' : b < 18446744073709551616) {r c : Nat} (hr : r = (x * y + a + b) % 18446744073709551616) (hc : c = (x * y + a + b) / 18446744073709551616) (w : World) :
   Calls Tryz.prog 94 #[.int .u64 x, .int .u64 y, .int .u64 a, .int .u64 b] w fun e w' => e = .returned (.tuple #[.int .u64 (r : Nat), .int .u64 (c : Nat)]) /\ Up w w' := by
 refine (step_any x y a b hx hy ha hb' w).mono ?_
 rintro e w' ⟨rfl, rfl⟩
 exact ⟨by rw [hr, hc], Up.refl _⟩
theorem step_bound {x y a b r c : Nat} (hx : x < 18446744073709551616) (hy : y < 18446744073709551616) (ha : a < 18446744073709551616) (hb' : b < 18446744073709551616) (hr : r = (x * y + a + b) % 18446744073709551616) (hc : c = (x * y + a + b) / 18446744073709551616) :
   r < 18446744073709551616 /\ c < 18446744073709551616 /\ r + c * 18446744073709551616 = x * y + a + b := by
 have h1 : x * y <= 18446744073709551615 * 18446744073709551615 := Nat.mul_le_mul (by omega) (by omega)
 generalize x * y = p at *
 omega
theorem sumL_zeros (n : Nat) : sumL (fun _ => 0) n = 0 := by
 induction n with
 | zero => exact sumL_zero _
 | succ n ih => rw [sumL_succ, ih]; simp
def prodV (p : Nat) : Value := .tuple #[wideV (if p < bp 16 then p else 0), .bool (decide (p < bp 16))]
theorem limb_len (x : Nat) (hx : x < bp 16) : sumL (limb x) (lenL (limb x) 16) = x := by
 rw [lenL_sum, sumL_limb, Nat.mod_eq_of_lt hx]
theorem long_prod {x y : Nat} (hx : x < bp 16) (hy : y < bp 16) (h : 17 < lenL (limb x) 16 + lenL (limb y) 16) : ¬ x * y < bp 16 := by
 have h1 := lenL_le (limb x) 16
 have h2 := lenL_le (limb y) 16
 have h3 := bp_le_of_len (limb x) 16 (by omega)
 have h4 := bp_le_of_len (limb y) 16 (by omega)
 rw [sumL_limb, Nat.mod_eq_of_lt hx] at h3
 rw [sumL_limb, Nat.mod_eq_of_lt hy] at h4
 have h5 := Nat.mul_le_mul h3 h4
 rw [<- bp_add] at h5
 have h6 := bp_mono (show 16 <= lenL (limb x) 16 - 1 + (lenL (limb y) 16 - 1) by omega)
 omega
theorem zeroW : wideV 0 = .agg (cells 16 (fun _ => 0)) := by
 unfold wideV
 rw [zero_limb, enc_zero]
set_option maxHeartbeats 2000000 in
theorem times_any (x y : Nat) (hx : x < bp 16) (hy : y < bp 16) (w : World) :
   Calls Tryz.prog 88 #[wideV x, wideV y] w fun e w' => e = .returned (prodV (x * y)) /\ Up w w' := by
 have HLX := hid (length_any x)
 have HLY := hid (length_any y)
 have hlx := lenL_le (limb x) 16
 have hly := lenL_le (limb y) 16
 have HSX := hid (limb_len x hx)
 have HSY := hid (limb_len y hy)
 by_cases hnm : 17 < lenL (limb x) 16 + lenL (limb y) 16
 ·have e : prodV (x * y) = .tuple #[.agg (cells 16 (fun _ => 0)), .bool false] := by
   have h := long_prod hx hy hnm
   unfold prodV
   rw [if_neg h, decide_eq_false h, zeroW]
  rw [e]
  clear e HSX HSY
  generalize lenL (limb x) 16 = n at *
  generalize lenL (limb y) 16 = m at *
  unfold wideV at *
  go_enter Tryz.func88, Tryz.ntmps88
  go_wp2
  refine opU (S := (fun wq => Row wq w.heap.size 78 16 (limb x) /\ Row wq (w.heap.size + 1) 78 16 (limb y) /\ Row wq (w.heap.size + 1 + 1) 78 16 (fun _ => 0) /\ Below w.heap.size w wq)) (req := (fun _ => true)) (fun _ _ h hu => ⟨(h.1).up hu, (h.2.1).up hu, (h.2.2.1).up hu, below_up (h.2.2.2) hu⟩) ⟨gRow, gRow, gRow, gUp⟩ (fun wS hSS hSu => ?_)
  have ⟨hS1, hS2, hS3, hSB⟩ := hSS
  refine tkT 0 (some 12) rfl hSu hSS ?_ (hy := fun w' hSw => run_ld undW infoW _ rfl _ rfl hSw.1)
  refine tkC 1 (some 13) rfl hSu hSS ?_ (hy := fun w' hSw => (HLX.out _))
  refine tkT 2 (some 14) rfl hSu hSS ?_ (hy := fun w' hSw => run_ld undW infoW _ rfl _ rfl hSw.2.1)
  refine tkC 3 (some 15) rfl hSu hSS ?_ (hy := fun w' hSw => (HLY.out _))
  refine tkP 4 (some 6) hSu ?_
  refine tkP 5 (some 7) hSu ?_
  refine wpAnyU_done (by kernel_rfl) (fun wE huE => ?_) _
  have ⟨hS1, hS2, hS3, hSB⟩ := hSu.out _ _ hSS huE
  clear huE hSS
  go_wp2_with (first | ((with_reducible apply ld_rowP undW infoW); exact rfl; exact rfl; exact gRow) | ((with_reducible apply st_rowP infoW); exact rfl; exact rfl; exact gRow) | ((with_reducible apply st_rowZ infoW); exact rfl; exact rfl; exact gRow))
  exact bodyPost_ret (res2 rfl undW infoW _ _ rfl gRow) rfl ⟨rfl, gUp⟩
 ·generalize lenL (limb x) 16 = n at *
  generalize lenL (limb y) 16 = m at *
  have hlb := bp16
  have h19 : decide (17 < (n : Int) + (m : Int)) = false := decide_eq_false (by omega)
  unfold wideV at *
  go_enter Tryz.func88, Tryz.ntmps88
  go_wp2
  refine opU (S := (fun wq => Row wq w.heap.size 78 16 (limb x) /\ Row wq (w.heap.size + 1) 78 16 (limb y) /\ Row wq (w.heap.size + 1 + 1) 78 16 (fun _ => 0) /\ Below w.heap.size w wq)) (req := (fun _ => true)) (fun _ _ h hu => ⟨(h.1).up hu, (h.2.1).up hu, (h.2.2.1).up hu, below_up (h.2.2.2) hu⟩) ⟨gRow, gRow, gRow, gUp⟩ (fun wS hSS hSu => ?_)
  have ⟨hS1, hS2, hS3, hSB⟩ := hSS
  refine tkT 0 (some 12) rfl hSu hSS ?_ (hy := fun w' hSw => run_ld undW infoW _ rfl _ rfl hSw.1)
  refine tkC 1 (some 13) rfl hSu hSS ?_ (hy := fun w' hSw => (HLX.out _))
  refine tkT 2 (some 14) rfl hSu hSS ?_ (hy := fun w' hSw => run_ld undW infoW _ rfl _ rfl hSw.2.1)
  refine tkC 3 (some 15) rfl hSu hSS ?_ (hy := fun w' hSw => (HLY.out _))
  refine tkP 4 (some 6) hSu ?_
  refine tkP 5 (some 7) hSu ?_
  refine wpAnyU_done (by kernel_rfl) (fun wE huE => ?_) _
  have ⟨hS1, hS2, hS3, hSB⟩ := hSu.out _ _ hSS huE
  clear huE hSS
  have hsz := hS3.lt
  go_wp2_with (first | ((with_reducible apply ld_rowP undW infoW); exact rfl; exact rfl; exact gRow) | ((with_reducible apply st_rowP infoW); exact rfl; exact rfl; exact gRow) | ((with_reducible apply st_rowZ infoW); exact rfl; exact rfl; exact gRow))
  go_loopw [22] (fun t wr => ∃ (i : Nat) (S : Nat -> Nat), i <= n /\ t = .int .i64 i /\ (∀ j, j < 17 -> S j < 18446744073709551616) /\ sumL S 17 = sumL (limb x) i * sumL (limb y) m /\ (∀ j, i + m <= j -> j < 17 -> S j = 0) /\
     Row wr w.heap.size 78 16 (limb x) /\ Row wr (w.heap.size + 1) 78 16 (limb y) /\ Row wr (w.heap.size + 1 + 1) 78 16 (fun _ => 0) /\ Row wr wE.heap.size 155 17 S /\ Below w.heap.size w wr)
   (fun t _ => n - (intOf t).toNat)
  case atStart => exact ⟨0, fun _ => 0, by omega, rfl, fun i h => by simp, by rw [sumL_zero, Nat.zero_mul]; exact sumL_zeros 17, fun _ _ _ => rfl, gRow, gRow, gRow, row_newz17 _ rfl, bl_alloc (by omega) hSB⟩
  case round =>
   obtain ⟨i, S, hi, rfl, hSb, hsum, hz, hX, hY, hR, hM, hB⟩ := hrel
   have HSb := hid hSb
   have Hsum := hid hsum
   have Hz := hid hz
   clear hSb hsum hz hS1 hS2 hS3 hSB
   obtain ⟨wo, rfl⟩ : ∃ wo : World, wo = wr := ⟨_, rfl⟩
   by_cases hlt : i < n
   ·have hi16 : (i : Int) < 16 := by omega
    go_wp2
    go_loopw [10, 26] (fun tc t wi => ∃ (k c : Nat) (S' : Nat -> Nat), k <= m /\ t = .int .i64 k /\ tc = .int .u64 c /\ c < 18446744073709551616 /\ (∀ j, j < 17 -> S' j < 18446744073709551616) /\
       sumL S' 17 + c * (bp i * bp k) = sumL (limb x) i * sumL (limb y) m + limb x i * bp i * sumL (limb y) k /\ (∀ j, i + m <= j -> j < 17 -> S' j = 0) /\
       Row wi w.heap.size 78 16 (limb x) /\ Row wi (w.heap.size + 1) 78 16 (limb y) /\ Row wi (w.heap.size + 1 + 1) 78 16 (fun _ => 0) /\ Row wi wE.heap.size 155 17 S' /\ Below w.heap.size w wi)
     (fun _ t _ => m - (intOf t).toNat)
    case atStart => exact ⟨0, 0, S, by omega, rfl, rfl, by omega, HSb.out, by rw [sumL_zero, Hsum.out]; omega, Hz.out, hX, hY, hR, hM, hB⟩
    case round =>
     clear hX hY hR hM hB HSb Hsum Hz
     obtain ⟨k, c, S', hk, rfl, rfl, hc, hSb, hsum, hz, hX, hY, hR, hM, hB⟩ := hrel
     have HSb := hid hSb
     have Hsum := hid hsum
     have Hz := hid hz
     clear hSb hsum hz
     by_cases hkt : k < m
     ·obtain ⟨r, er⟩ : ∃ r, r = (limb x i * limb y k + S' (i + k) + c) % 18446744073709551616 := ⟨_, rfl⟩
      obtain ⟨c', ec⟩ : ∃ c', c' = (limb x i * limb y k + S' (i + k) + c) / 18446744073709551616 := ⟨_, rfl⟩
      have hlx' := limb_lt x i
      have hly' := limb_lt y k
      have hsk := HSb.out (i + k) (by omega)
      have HC := hid (fun w => step_up _ _ _ _ hlx' hly' hsk hc er ec w)
      obtain ⟨hr, hc', hrc⟩ := step_bound hlx' hly' hsk hc er ec
      have Hrc := hid hrc
      clear er ec hrc
      have hk16 : (k : Int) < 16 := by omega
      have hik : (i : Int) + (k : Int) < 17 := by omega
      have hik0 : (0 : Int) <= (i : Int) + (k : Int) := by omega
      have E1 : Hid (IntKind.i64.wrap ((i : Int) + (k : Int)) = (i : Int) + (k : Int)) := hid (IntWalk.i64_in _ (by omega))
      have E2 : Hid (((i : Int) + (k : Int)).toNat = i + k) := hid (by omega)
      have hcx := hX.cell i (by omega)
      have hcy := hY.cell k (by omega)
      have hcs := hM.cell (i + k) (by omega)
      go_wp2
      refine opU (S := (fun wq => Row wq w.heap.size 78 16 (limb x) /\ Row wq (w.heap.size + 1) 78 16 (limb y) /\ Row wq (w.heap.size + 1 + 1) 78 16 (fun _ => 0) /\ Row wq wE.heap.size 155 17 S' /\ wq.cell? ⟨w.heap.size, i, none⟩ = some (.int .u64 (limb x i : Nat)) /\ wq.cell? ⟨w.heap.size + 1, k, none⟩ = some (.int .u64 (limb y k : Nat)) /\ wq.cell? ⟨wE.heap.size, i + k, none⟩ = some (.int .u64 (S' (i + k) : Nat)) /\ Below w.heap.size w wq)) (req := (fun j => j != 20)) (fun _ _ h hu => ⟨(h.1).up hu, (h.2.1).up hu, (h.2.2.1).up hu, (h.2.2.2.1).up hu, hu.cell (h.2.2.2.2.1), hu.cell (h.2.2.2.2.2.1), hu.cell (h.2.2.2.2.2.2.1), below_up (h.2.2.2.2.2.2.2) hu⟩) ⟨gRow, gRow, gRow, gRow, (by first | assumption | (apply Blk.cell; exact gBlk; exact rfl)), (by first | assumption | (apply Blk.cell; exact gBlk; exact rfl)), (by first | assumption | (apply Blk.cell; exact gBlk; exact rfl)), gUp⟩ (fun wS hSS hSu => ?_)
      have ⟨hS1, hS2, hS3, hS4, hS5, hS6, hS7, hSB⟩ := hSS
      clear hcx hcy hcs hX hY hR hM hB
      refine tkP 0 (some 30) hSu ?_
      refine tkP 1 (some 31) hSu ?_
      refine tkT 2 (some 32) rfl hSu hSS ?_ (hy := fun w' hSw => by (have e1 := E1.out; go_simp; (try exact rfl)))
      refine tkP 3 (some 33) hSu ?_
      refine tkP 4 (some 34) hSu ?_
      refine tkT 5 (some 35) rfl hSu hSS ?_ (hy := fun w' hSw => by ((try dsimp only at hSw); (try obtain ⟨_, _, _, _, _, _, _, _⟩ := hSw); go_simp; (try exact rfl)))
      refine tkP 6 (some 36) hSu ?_
      refine tkP 7 (some 37) hSu ?_
      refine tkT 8 (some 38) rfl hSu hSS ?_ (hy := fun w' hSw => by ((try dsimp only at hSw); (try obtain ⟨_, _, _, _, _, _, _, _⟩ := hSw); go_simp; (try exact rfl)))
      refine tkP 9 (some 39) hSu ?_
      refine tkP 10 (some 40) hSu ?_
      refine tkT 11 (some 41) rfl hSu hSS ?_ (hy := fun w' hSw => by (have e1 := E1.out; go_simp; (try exact rfl)))
      refine tkT 12 (some 42) rfl hSu hSS ?_ (hy := fun w' hSw => by (have e2 := E2.out; go_simp; (try exact rfl)))
      refine tkT 13 (some 43) rfl hSu hSS ?_ (hy := fun w' hSw => by ((try dsimp only at hSw); (try obtain ⟨_, _, _, _, _, _, _, _⟩ := hSw); go_simp; (try exact rfl)))
      refine tkP 14 (some 44) hSu ?_
      refine tkC 15 (some 45) rfl hSu hSS ?_ (hy := fun w' hSw => (HC.out _))
      refine tkP 16 (some 29) hSu ?_
      refine tkP 17 (some 46) hSu ?_
      refine tkP 18 (some 47) hSu ?_
      refine tkT 19 (some 48) rfl hSu hSS ?_ (hy := fun w' hSw => by (have e2 := E2.out; go_simp; (try exact rfl)))
      refine wpAnyU_one (i := 20) rfl (by kernel_rfl) (by rfl) fun w1 hw1 => ?_
      have hcW := (hS4.up hw1).cell (i+k) (by omega)
      have hfW := (hS4.up hw1).frozen (i+k)
      go_simp
      clear hcW hfW
      refine tkP 21 (some 10) hSu ?_
      refine wpAnyU_done (by kernel_rfl) (fun wF huE => ?_) _
      have hne := hS4.lt
      have gX := ((hS1.up hw1).other ⟨wE.heap.size, i + k, none⟩ (.int .u64 (r : Nat)) (by simp; omega)).up huE
      have gY := ((hS2.up hw1).other ⟨wE.heap.size, i + k, none⟩ (.int .u64 (r : Nat)) (by simp; omega)).up huE
      have gR := ((hS3.up hw1).other ⟨wE.heap.size, i + k, none⟩ (.int .u64 (r : Nat)) (by simp; omega)).up huE
      have gM := ((hS4.up hw1).set (i + k) r).up huE
      have gB := below_up ((below_up hSB hw1).setCell (p := ⟨wE.heap.size, i + k, none⟩) (by simp; omega) (.int .u64 (r : Nat))) huE
      clear hS1 hS2 hS3 hS4 hS5 hS6 hS7 hSB hSS hw1 huE hne
      go_wp2
      go_roundw
      case rel =>
       refine ⟨k + 1, c', upd S' (i + k) r, by omega, by go_num, rfl, hc', upd_lt HSb.out hr, ?_, fun j h1 h2 => by rw [upd_other _ _ _ (by omega)]; exact Hz.out j h1 h2, gX, gY, gR, gM, gB⟩
       have h2 := sumL_upd S' r (show i + k < 17 by omega)
       rw [bp_add] at h2
       rw [bp_succ, sumL_succ (limb y) k, <- Nat.mul_assoc (bp i)]
       exact times_step Hsum.out h2 Hrc.out
      case measure => simp [intOf] <;> omega
     ·obtain rfl : k = m := by omega
      have him : (i : Int) + (k : Int) < 17 := by omega
      have him0 : (0 : Int) <= (i : Int) + (k : Int) := by omega
      have E2 : ((i : Int) + (k : Int)).toNat = i + k := by omega
      have hcs := hM.cell (i + k) (by omega)
      have hfs := hM.frozen (i + k)
      have gX := hX.other ⟨wE.heap.size, i + k, none⟩ (.int .u64 (c : Nat)) (by simp; omega)
      have gY := hY.other ⟨wE.heap.size, i + k, none⟩ (.int .u64 (c : Nat)) (by simp; omega)
      have gR := hR.other ⟨wE.heap.size, i + k, none⟩ (.int .u64 (c : Nat)) (by simp; omega)
      have gM := hM.set (i + k) c
      have gB := hB.setCell (p := ⟨wE.heap.size, i + k, none⟩) (by simp; omega) (.int .u64 (c : Nat))
      clear hX hY hR hM hB
      go_wp2
      go_roundw
      case rel =>
       refine ⟨i + 1, upd S' (i + k) c, by omega, by go_num, upd_lt HSb.out hc, ?_, fun j h1 h2 => by rw [upd_other _ _ _ (by omega)]; exact Hz.out j (by omega) h2, gX, gY, gR, gM, gB⟩
       have h2 := sumL_upd S' c (show i + k < 17 by omega)
       have h3 := Hz.out (i + k) (Nat.le_refl _) (by omega)
       have h4 := Hsum.out
       rw [bp_add, h3, Nat.zero_mul, Nat.add_zero] at h2
       rw [h2, sumL_succ (limb x) i, Nat.add_mul]
       exact h4
      case measure => simp [intOf] <;> omega
   ·obtain rfl : i = n := by omega
    have hprod := Hsum.out
    rw [HSX.out, HSY.out, sumL_succ] at hprod
    have hlt16 := sumL_lt (f := S) (k := 16) fun j hj => HSb.out j (by omega)
    have hfull : sumL S 17 = x * y := by rw [sumL_succ]; exact hprod
    have hcs := hM.cell 16 (by omega)
    have hRA := right_any S HSb.out 0 (by decide)
    rw [hfull, Nat.pow_zero, Nat.div_one] at hRA
    by_cases h0 : S 16 = 0
    ·have hp : x * y < bp 16 := by rw [<- hprod, h0]; omega
     have e : prodV (x * y) = .tuple #[wideV (x * y), .bool true] := by
      unfold prodV; rw [if_pos hp, decide_eq_true hp]
     have He := hid e
     rw [Nat.mod_eq_of_lt hp] at hRA
     unfold longV at hRA
     have HRA := hid hRA
     rw [h0] at hcs
     clear hfull hlt16 hprod h0 hRA e HSX HSY Hz Hsum
     go_wp2_with (first | ((with_reducible apply ld_rowP undL infoL); exact rfl; exact rfl; exact hM) | ((with_reducible apply st_rowP infoW); exact rfl; exact rfl; exact gRow) | ((with_reducible apply st_rowZ infoW); exact rfl; exact rfl; exact gRow) | (go_at_call 95; refine (HRA.out _).mono ?_; rintro e w' ⟨rfl, hu⟩))
     exact bodyPost_ret (res2 rfl undW infoW _ _ rfl gRow) rfl ⟨by rw [He.out]; rfl, gUp⟩
    ·have hp : ¬ x * y < bp 16 := by
      have : 1 * bp 16 <= S 16 * bp 16 := Nat.mul_le_mul_right _ (by omega)
      rw [<- hprod]; omega
     have e : prodV (x * y) = .tuple #[.agg (cells 16 (fun _ => 0)), .bool false] := by
      unfold prodV
      rw [if_neg hp, decide_eq_false hp, zeroW]
     have He := hid e
     have hb16 : ((S 16 : Int) != 0) = true := by simp; omega
     clear hfull hlt16 hprod hRA e HSX HSY Hz Hsum h0
     generalize S 16 = top at *
     go_wp2_with (first | ((with_reducible apply st_rowP infoW); exact rfl; exact rfl; exact gRow) | ((with_reducible apply st_rowZ infoW); exact rfl; exact rfl; exact gRow))
     exact bodyPost_ret (res2 rfl undW infoW _ _ rfl gRow) rfl ⟨by rw [He.out]; rfl, gUp⟩
theorem wp_st_rowN {P : Program} {t : TypeId} {n : Nat} {o : Oper} {a : Act} {w : World} {K : Act -> World -> Prop} {Q : Exit -> Act -> World -> Prop} (hi : (P.info? t).map (·.size) = some n) (hd : o.dst = none) (x y : Operand) (ho : o.op = .store t x y) (g : Nat)
   (hx : a.eval x = .pointer (some ⟨g, 0, none⟩)) {f v : Nat -> Nat} (hy : a.eval y = .agg (cells n v)) (hC : Row w g t n f) (h : K a (w.setRow g (cells n v))) : o.wp P a w K Q :=
 wp_st_row hi x y ho g hx hy hC (by rw [hd]; exact h)
theorem run_allocW {o : Oper} {a : Act} (ho : o.op = .alloc 78) (w : World) :
   (execOp a.eval o).run Tryz.prog w = .ok (.value (.pointer (some ⟨w.heap.size, 0, none⟩))) (w.alloc (.cells (cells 16 (fun _ => 0)) 78)) := by
 rw [<- zeros16]
 unfold execOp
 rw [ho]
 dsimp only
 go_simp
theorem wpAnyU_allocW {ops : Array Oper} {Q : Exit -> Act -> World -> Prop} {md : Region.Mode} {S : World -> Prop} {req : Nat -> Bool} {i : Nat} {o : Oper} {d : Option Tmp} {fuel : Nat} {listed : Array Bool} {a : Act} {w : World}
   (hi : ops[i]? = some o) (hd : o.dst = d) (hr : Region.ready md ops listed = [i]) (hw : Region.wanted o (yielded ops a.tmps) = true) (ho : o.op = .alloc 78) (hSup : ∀ w w', S w -> Up w w' -> S w')
   (h : ∀ w1, Up w w1 -> wpAnyU Tryz.prog md ops Q S req fuel (listed.setIfInBounds i true) (a.put d (.pointer (some ⟨w1.heap.size, 0, none⟩))) (w1.alloc (.cells (cells 16 (fun _ => 0)) 78))) : wpAnyU Tryz.prog md ops Q S req (fuel + 1) listed a w := by
 subst hd
 refine wpAnyU_one hi hr hw fun w1 hw1 => ?_
 unfold Oper.wp
 rw [run_allocW ho w1]
 exact ⟨fun _ hS => hSup _ _ hS (Up.alloc _ _), h w1 hw1⟩
theorem pm_mul (a b : Int) {sa sb : Bool} (ha : sa = decide (a < 0)) (hb' : sb = decide (b < 0)) : pm (sa != sb) (a.natAbs * b.natAbs) = a * b := by
 subst ha; subst hb'
 by_cases h1 : a < 0
 ·obtain ⟨n, e⟩ : ∃ n : Nat, a = -(n : Int) := ⟨a.natAbs, by omega⟩
  by_cases h2 : b < 0
  ·obtain ⟨m, f⟩ : ∃ m : Nat, b = -(m : Int) := ⟨b.natAbs, by omega⟩
   rw [decide_eq_true h1, decide_eq_true h2, e, f, Int.natAbs_neg, Int.natAbs_neg, Int.neg_mul_neg]
   rfl
  ·obtain ⟨m, f⟩ : ∃ m : Nat, b = (m : Int) := ⟨b.natAbs, by omega⟩
   rw [decide_eq_true h1, decide_eq_false h2, e, f, Int.natAbs_neg, Int.neg_mul]
   rfl
 ·obtain ⟨n, e⟩ : ∃ n : Nat, a = (n : Int) := ⟨a.natAbs, by omega⟩
  by_cases h2 : b < 0
  ·obtain ⟨m, f⟩ : ∃ m : Nat, b = -(m : Int) := ⟨b.natAbs, by omega⟩
   rw [decide_eq_false h1, decide_eq_true h2, e, f, Int.natAbs_neg, Int.mul_neg]
   rfl
  ·obtain ⟨m, f⟩ : ∃ m : Nat, b = (m : Int) := ⟨b.natAbs, by omega⟩
   rw [decide_eq_false h1, decide_eq_false h2, e, f]
   rfl
theorem mul_not {a b : Int} (h : ¬ a.natAbs * b.natAbs < bp 16) : ¬ InR (a * b) := fun hr => by
 have h1 := enc_natAbs hr
 rw [Int.natAbs_mul] at h1
 exact h h1.2
set_option maxHeartbeats 2000000 in
theorem mul_z {a b : Int} (ha : InR a) (hb' : InR b) (w : World) :
   Calls Tryz.prog 82 #[wideV (enc a), wideV (enc b)] w fun e w' => e = .returned (opt (a * b)) /\ Up w w' := by
 have HA := hid (fun w => amount_z ha w)
 have HB := hid (fun w => amount_z hb' w)
 have hT := fun w => times_any _ _ (enc_natAbs ha).2 (enc_natAbs hb').2 w
 have hMA := fun w => minus_z ha w
 have hMB := fun w => minus_z hb' w
 obtain ⟨sa, ea⟩ : ∃ sa, sa = decide (a < 0) := ⟨_, rfl⟩
 obtain ⟨sb, eb⟩ : ∃ sb, sb = decide (b < 0) := ⟨_, rfl⟩
 rw [<- ea] at hMA
 rw [<- eb] at hMB
 have HMA := hid hMA
 have HMB := hid hMB
 clear hMA hMB
 by_cases hp : a.natAbs * b.natAbs < bp 16
 ·have hv : prodV (a.natAbs * b.natAbs) = .tuple #[wideV (a.natAbs * b.natAbs), .bool true] := by
   unfold prodV; rw [if_pos hp, decide_eq_true hp]
  rw [hv] at hT
  have HT := hid hT
  have hS := fun w => signed_any hp (!(sa == sb)) w
  have epm := pm_mul a b ea eb
  change pm (!(sa == sb)) _ = _ at epm
  rw [epm] at hS
  have HS := hid hS
  clear hT hS hv ea eb epm
  generalize a.natAbs * b.natAbs = p at *
  generalize a.natAbs = m at *
  generalize b.natAbs = n at *
  obtain ⟨v, ok, ho⟩ : ∃ v ok, opt (a * b) = .tuple #[.agg (cells 16 (limb v)), .bool ok] := ⟨_, _, rfl⟩
  rw [ho] at HS ⊢
  clear ho
  unfold wideV at *
  go_enter Tryz.func82, Tryz.ntmps82
  go_wp2
  refine opU (S := (fun wq => Row wq w.heap.size 78 16 (limb (enc a)) /\ Row wq (w.heap.size + 1) 78 16 (limb (enc b)) /\ Row wq (w.heap.size + 1 + 1) 78 16 (fun _ => 0) /\ Below w.heap.size w wq)) (req := (fun j => j != 9)) (fun _ _ h hu => ⟨(h.1).up hu, (h.2.1).up hu, (h.2.2.1).up hu, below_up (h.2.2.2) hu⟩) ⟨gRow, gRow, gRow, gUp⟩ (fun wS hSS hSu => ?_)
  have ⟨hS1, hS2, hS3, hSB⟩ := hSS
  refine tkT 0 (some 9) rfl hSu hSS ?_ (hy := fun w' hSw => run_ld undW infoW _ rfl _ rfl hSw.1)
  refine tkC 1 (some 10) rfl hSu hSS ?_ (hy := fun w' hSw => (HA.out _))
  refine tkT 2 (some 11) rfl hSu hSS ?_ (hy := fun w' hSw => run_ld undW infoW _ rfl _ rfl hSw.2.1)
  refine tkC 3 (some 12) rfl hSu hSS ?_ (hy := fun w' hSw => (HB.out _))
  refine tkC 4 (some 13) rfl hSu hSS ?_ (hy := fun w' hSw => (HT.out _))
  refine tkP 5 (some 8) hSu ?_
  refine tkP 6 (some 14) hSu ?_
  refine tkP 7 (some 15) hSu ?_
  refine wpAnyU_allocW (i := 8) (d := (some 6)) rfl rfl (by kernel_rfl) (by rfl) rfl hSu.out fun w1 hw1 => ?_
  try simp only [Act.put, pu1, pu2, pu3]
  refine wpAnyU_one (i := 9) rfl (by kernel_rfl) (by rfl) fun w2 hw2 => ?_
  refine wp_st_rowN infoW rfl _ _ rfl _ rfl rfl ((Row.up (row_newc _ 16 _ rfl) hw2)) ?_
  refine ⟨fun h => by simp at h, ?_⟩
  try simp only [Act.put, pu1, pu2, pu3]
  refine tkP 10 (some 7) hSu ?_
  refine wpAnyU_done (by kernel_rfl) (fun wF huE => ?_) _
  have gX := ((((hS1.up hw1).up (Up.alloc _ _)).up hw2).row_other (cells 16 (limb p)) (show w.heap.size ≠ w1.heap.size by have := (hS1.up hw1).lt; omega)).up huE
  have gY := ((((hS2.up hw1).up (Up.alloc _ _)).up hw2).row_other (cells 16 (limb p)) (show w.heap.size + 1 ≠ w1.heap.size by have := (hS2.up hw1).lt; omega)).up huE
  have gR := ((((hS3.up hw1).up (Up.alloc _ _)).up hw2).row_other (cells 16 (limb p)) (show w.heap.size + 1 + 1 ≠ w1.heap.size by have := (hS3.up hw1).lt; omega)).up huE
  have gP := ((Row.up (row_newc 78 16 (fun _ => 0) (rfl : w1.heap.size = w1.heap.size)) hw2).setRow (limb p)).up huE
  have gB : Below w.heap.size w wF := below_up (below_setRow (below_up ((below_up hSB hw1).alloc (by have := (hS3.up hw1).lt; omega) _) hw2) (by have := (hS3.up hw1).lt; omega) _) huE
  have hne := (hS3.up hw1).lt
  clear hS1 hS2 hS3 hSB hSS hw1 hw2 huE
  generalize w1.heap.size = pb at *
  go_wp2
  refine opU (S := (fun wq => Row wq w.heap.size 78 16 (limb (enc a)) /\ Row wq (w.heap.size + 1) 78 16 (limb (enc b)) /\ Row wq (w.heap.size + 1 + 1) 78 16 (fun _ => 0) /\ Row wq pb 78 16 (limb p) /\ Below w.heap.size w wq)) (req := (fun j => j != 9)) (fun _ _ h hu => ⟨(h.1).up hu, (h.2.1).up hu, (h.2.2.1).up hu, (h.2.2.2.1).up hu, below_up (h.2.2.2.2) hu⟩) ⟨gRow, gRow, gRow, gRow, gUp⟩ (fun wS hSS hSu => ?_)
  have ⟨hS1, hS2, hS3, hS4, hSB⟩ := hSS
  clear gX gY gR gP gB
  refine tkT 0 (some 19) rfl hSu hSS ?_ (hy := fun w' hSw => run_ld undW infoW _ rfl _ rfl hSw.2.2.2.1)
  refine tkT 1 (some 20) rfl hSu hSS ?_ (hy := fun w' hSw => run_ld undW infoW _ rfl _ rfl hSw.1)
  refine tkC 2 (some 21) rfl hSu hSS ?_ (hy := fun w' hSw => (HMA.out _))
  refine tkT 3 (some 22) rfl hSu hSS ?_ (hy := fun w' hSw => run_ld undW infoW _ rfl _ rfl hSw.2.1)
  refine tkC 4 (some 23) rfl hSu hSS ?_ (hy := fun w' hSw => (HMB.out _))
  refine tkP 5 (some 24) hSu ?_
  refine tkC 6 (some 25) rfl hSu hSS ?_ (hy := fun w' hSw => (HS.out _))
  refine tkP 7 (some 26) hSu ?_
  refine tkP 8 (some 27) hSu ?_
  refine wpAnyU_one (i := 9) rfl (by kernel_rfl) (by rfl) fun w4 hw4 => ?_
  refine wp_st_rowN infoW rfl _ _ rfl _ rfl rfl ((hS3.up hw4)) ?_
  refine ⟨fun h => by simp at h, ?_⟩
  try simp only [Act.put, pu1, pu2, pu3]
  refine tkP 10 (some 5) hSu ?_
  refine wpAnyU_done (by kernel_rfl) (fun wF huE => ?_) _
  have gR := ((hS3.up hw4).setRow (limb v)).up huE
  have gB := below_up (below_setRow (below_up hSB hw4) (by omega) _) huE
  clear hS1 hS2 hS3 hS4 hSB hSS hw4 huE
  go_wp2
  exact bodyPost_ret (res2 rfl undW infoW _ _ rfl gR) rfl ⟨rfl, gB⟩
 ·have hv : prodV (a.natAbs * b.natAbs) = .tuple #[.agg (cells 16 (fun _ => 0)), .bool false] := by
   unfold prodV
   rw [if_neg hp, decide_eq_false hp, zeroW]
  rw [hv] at hT
  have HT := hid hT
  have ho := opt_no (mul_not hp)
  rw [ho]
  clear hT hv ea eb ho hp
  generalize a.natAbs = m at *
  generalize b.natAbs = n at *
  unfold wideV at *
  go_enter Tryz.func82, Tryz.ntmps82
  go_wp2
  refine opU (S := (fun wq => Row wq w.heap.size 78 16 (limb (enc a)) /\ Row wq (w.heap.size + 1) 78 16 (limb (enc b)) /\ Row wq (w.heap.size + 1 + 1) 78 16 (fun _ => 0) /\ Below w.heap.size w wq)) (req := (fun j => j != 9)) (fun _ _ h hu => ⟨(h.1).up hu, (h.2.1).up hu, (h.2.2.1).up hu, below_up (h.2.2.2) hu⟩) ⟨gRow, gRow, gRow, gUp⟩ (fun wS hSS hSu => ?_)
  have ⟨hS1, hS2, hS3, hSB⟩ := hSS
  refine tkT 0 (some 9) rfl hSu hSS ?_ (hy := fun w' hSw => run_ld undW infoW _ rfl _ rfl hSw.1)
  refine tkC 1 (some 10) rfl hSu hSS ?_ (hy := fun w' hSw => (HA.out _))
  refine tkT 2 (some 11) rfl hSu hSS ?_ (hy := fun w' hSw => run_ld undW infoW _ rfl _ rfl hSw.2.1)
  refine tkC 3 (some 12) rfl hSu hSS ?_ (hy := fun w' hSw => (HB.out _))
  refine tkC 4 (some 13) rfl hSu hSS ?_ (hy := fun w' hSw => (HT.out _))
  refine tkP 5 (some 8) hSu ?_
  refine tkP 6 (some 14) hSu ?_
  refine tkP 7 (some 15) hSu ?_
  refine wpAnyU_allocW (i := 8) (d := (some 6)) rfl rfl (by kernel_rfl) (by rfl) rfl hSu.out fun w1 hw1 => ?_
  try simp only [Act.put, pu1, pu2, pu3]
  refine wpAnyU_one (i := 9) rfl (by kernel_rfl) (by rfl) fun w2 hw2 => ?_
  refine wp_st_rowN infoW rfl _ _ rfl _ rfl rfl ((Row.up (row_newc _ 16 _ rfl) hw2)) ?_
  refine ⟨fun h => by simp at h, ?_⟩
  try simp only [Act.put, pu1, pu2, pu3]
  refine tkP 10 (some 7) hSu ?_
  refine wpAnyU_done (by kernel_rfl) (fun wF huE => ?_) _
  have gR := ((((hS3.up hw1).up (Up.alloc _ _)).up hw2).row_other (cells 16 (fun _ => 0)) (show w.heap.size + 1 + 1 ≠ w1.heap.size by have := (hS3.up hw1).lt; omega)).up huE
  have gB : Below w.heap.size w wF := below_up (below_setRow (below_up ((below_up hSB hw1).alloc (by have := (hS3.up hw1).lt; omega) _) hw2) (by have := (hS3.up hw1).lt; omega) _) huE
  clear hS1 hS2 hS3 hSB hSS hw1 hw2 huE
  go_wp2_with (first | ((with_reducible apply st_rowP infoW); exact rfl; exact rfl; exact gRow) | ((with_reducible apply st_rowZ infoW); exact rfl; exact rfl; exact gRow))
  exact bodyPost_ret (res2 rfl undW infoW _ _ rfl gRow) rfl ⟨rfl, gUp⟩
structure IsP (p : Prop) (b : Bool) : Prop where
 out : b = true ↔ p
theorem IsP.yes {p : Prop} (h : p) : IsP p true := ⟨by simp [h]⟩
theorem IsP.no {p : Prop} (h : ¬ p) : IsP p false := ⟨by simp [h]⟩
theorem IsP.dec {p : Prop} {b : Bool} [Decidable p] (h : IsP p b) : decide p = b := by
 rw [Bool.eq_iff_iff, decide_eq_true_iff]; exact h.out.symm
theorem op_addN {P : Program} {o : Oper} {a : Act} {x y : Operand} {t u : TypeId} {X Y : Nat} (ho : o.op = .binOp .add t x y u) (hx : a.eval x = .int .u64 (X : Nat)) (hy : a.eval y = .int .u64 (Y : Nat))  (w : World) :
   (execOp a.eval o).run P w = .ok (.value (.int .u64 (((X + Y) % 18446744073709551616 : Nat) : Int))) w := by
 have e : IntKind.u64.wrap ((X : Int) + (Y : Int)) = (((X + Y) % 18446744073709551616 : Nat) : Int) := by rw [IntKind.wrap_u64]; omega
 unfold execOp
 simp only [ho, hx, hy, eqGuard, binOp, Op.intArith, e]
 simp
theorem addNP {P : Program} {t u : TypeId} {ops : Array Oper} {rest : List Oper} {Q : Exit -> Act -> World -> Prop} {a : Act} {w : World} {d : Option Tmp} {x y : Operand} {ty : TypeId} {pos : String} {af : Array Edge} {gd : Option (Nat × Bool)} {X Y : Nat}
   (hw : Region.wanted { dst := d, op := .binOp .add t x y u, type := ty, pos := pos, after := af, guard := gd } (yielded ops a.tmps) = true) (hx : a.eval x = .int .u64 (X : Nat)) (hy : a.eval y = .int .u64 (Y : Nat)) 
   (h : wpList P ops Q rest (a.put d (.int .u64 (((X + Y) % 18446744073709551616 : Nat) : Int))) w) : wpList P ops Q ({ dst := d, op := .binOp .add t x y u, type := ty, pos := pos, after := af, guard := gd } :: rest) a w := wpList_run hw (op_addN rfl hx hy  w) h
theorem op_mulN {P : Program} {o : Oper} {a : Act} {x y : Operand} {t u : TypeId} {X Y : Nat} (ho : o.op = .binOp .mul t x y u) (hx : a.eval x = .int .u64 (X : Nat)) (hy : a.eval y = .int .u64 (Y : Nat))  (w : World) :
   (execOp a.eval o).run P w = .ok (.value (.int .u64 ((X * Y % 18446744073709551616 : Nat) : Int))) w := by
 have e : IntKind.u64.wrap ((X : Int) * (Y : Int)) = ((X * Y % 18446744073709551616 : Nat) : Int) := by rw [IntKind.wrap_u64, <- Int.natCast_mul]; omega
 unfold execOp
 simp only [ho, hx, hy, eqGuard, binOp, Op.intArith, e]
 simp
theorem mulNP {P : Program} {t u : TypeId} {ops : Array Oper} {rest : List Oper} {Q : Exit -> Act -> World -> Prop} {a : Act} {w : World} {d : Option Tmp} {x y : Operand} {ty : TypeId} {pos : String} {af : Array Edge} {gd : Option (Nat × Bool)} {X Y : Nat}
   (hw : Region.wanted { dst := d, op := .binOp .mul t x y u, type := ty, pos := pos, after := af, guard := gd } (yielded ops a.tmps) = true) (hx : a.eval x = .int .u64 (X : Nat)) (hy : a.eval y = .int .u64 (Y : Nat)) 
   (h : wpList P ops Q rest (a.put d (.int .u64 ((X * Y % 18446744073709551616 : Nat) : Int))) w) : wpList P ops Q ({ dst := d, op := .binOp .mul t x y u, type := ty, pos := pos, after := af, guard := gd } :: rest) a w := wpList_run hw (op_mulN rfl hx hy  w) h
theorem op_subN {P : Program} {o : Oper} {a : Act} {x y : Operand} {t u : TypeId} {X Y : Nat} (ho : o.op = .binOp .sub t x y u) (hx : a.eval x = .int .u64 (X : Nat)) (hy : a.eval y = .int .u64 (Y : Nat)) (hY : Y < 18446744073709551616) (w : World) :
   (execOp a.eval o).run P w = .ok (.value (.int .u64 (((X + 18446744073709551616 - Y) % 18446744073709551616 : Nat) : Int))) w := by
 have e : IntKind.u64.wrap ((X : Int) - (Y : Int)) = (((X + 18446744073709551616 - Y) % 18446744073709551616 : Nat) : Int) := by rw [IntKind.wrap_u64]; omega
 unfold execOp
 simp only [ho, hx, hy, eqGuard, binOp, Op.intArith, e]
 simp
theorem subNP {P : Program} {t u : TypeId} {ops : Array Oper} {rest : List Oper} {Q : Exit -> Act -> World -> Prop} {a : Act} {w : World} {d : Option Tmp} {x y : Operand} {ty : TypeId} {pos : String} {af : Array Edge} {gd : Option (Nat × Bool)} {X Y : Nat}
   (hw : Region.wanted { dst := d, op := .binOp .sub t x y u, type := ty, pos := pos, after := af, guard := gd } (yielded ops a.tmps) = true) (hx : a.eval x = .int .u64 (X : Nat)) (hy : a.eval y = .int .u64 (Y : Nat)) (hY : Y < 18446744073709551616)
   (h : wpList P ops Q rest (a.put d (.int .u64 (((X + 18446744073709551616 - Y) % 18446744073709551616 : Nat) : Int))) w) : wpList P ops Q ({ dst := d, op := .binOp .sub t x y u, type := ty, pos := pos, after := af, guard := gd } :: rest) a w := wpList_run hw (op_subN rfl hx hy hY w) h
theorem op_quoN {P : Program} {o : Oper} {a : Act} {x y : Operand} {t u : TypeId} {X Y : Nat} (ho : o.op = .binOp .quo t x y u) (hx : a.eval x = .int .u64 (X : Nat)) (hy : a.eval y = .int .u64 (Y : Nat)) (hX : X < 18446744073709551616) (hY : 0 < Y) (w : World) :
   (execOp a.eval o).run P w = .ok (.value (.int .u64 ((X / Y : Nat) : Int))) w := by
 have hd : X / Y < 18446744073709551616 := Nat.lt_of_le_of_lt (Nat.div_le_self _ _) hX
 have e : IntKind.u64.wrap ((X : Int).tdiv (Y : Int)) = ((X / Y : Nat) : Int) := by rw [<- Int.ofNat_tdiv, IntKind.wrap_u64]; generalize X / Y = q at *; omega
 have h0 : ((Y : Int) = 0) = False := by simp; omega
 unfold execOp
 simp only [ho, hx, hy, eqGuard, binOp, Op.intDiv, e, h0]
 simp
theorem quoNP {P : Program} {t u : TypeId} {ops : Array Oper} {rest : List Oper} {Q : Exit -> Act -> World -> Prop} {a : Act} {w : World} {d : Option Tmp} {x y : Operand} {ty : TypeId} {pos : String} {af : Array Edge} {gd : Option (Nat × Bool)} {X Y : Nat}
   (hw : Region.wanted { dst := d, op := .binOp .quo t x y u, type := ty, pos := pos, after := af, guard := gd } (yielded ops a.tmps) = true) (hx : a.eval x = .int .u64 (X : Nat)) (hy : a.eval y = .int .u64 (Y : Nat)) (hX : X < 18446744073709551616) (hY : 0 < Y)
   (h : wpList P ops Q rest (a.put d (.int .u64 ((X / Y : Nat) : Int))) w) : wpList P ops Q ({ dst := d, op := .binOp .quo t x y u, type := ty, pos := pos, after := af, guard := gd } :: rest) a w := wpList_run hw (op_quoN rfl hx hy hX hY w) h
theorem op_remN {P : Program} {o : Oper} {a : Act} {x y : Operand} {t u : TypeId} {X Y : Nat} (ho : o.op = .binOp .rem t x y u) (hx : a.eval x = .int .u64 (X : Nat)) (hy : a.eval y = .int .u64 (Y : Nat)) (_ : X < 18446744073709551616) (hY : 0 < Y) (w : World) :
   (execOp a.eval o).run P w = .ok (.value (.int .u64 ((X % Y : Nat) : Int))) w := by
 have h0 : ((Y : Int) = 0) = False := by simp; omega
 have e : (X : Int).tmod (Y : Int) = ((X % Y : Nat) : Int) := by rw [<- Int.ofNat_tmod]
 unfold execOp
 simp only [ho, hx, hy, eqGuard, binOp, Op.intDiv, e, h0]
 simp
theorem op_andN {P : Program} {o : Oper} {a : Act} {x y : Operand} {t u : TypeId} {X Y : Nat} (ho : o.op = .binOp .and t x y u) (hx : a.eval x = .int .u64 (X : Nat)) (hy : a.eval y = .int .u64 (Y : Nat)) (hX : X < 18446744073709551616) (hY : Y < 18446744073709551616) (w : World) :
   (execOp a.eval o).run P w = .ok (.value (.int .u64 ((X &&& Y : Nat) : Int))) w := by
 unfold execOp
 simp only [ho, hx, hy, eqGuard, binOp, intBits_and, bits_and_u64_nat X Y hX hY]
 simp
theorem andNP {P : Program} {t u : TypeId} {ops : Array Oper} {rest : List Oper} {Q : Exit -> Act -> World -> Prop} {a : Act} {w : World} {d : Option Tmp} {x y : Operand} {ty : TypeId} {pos : String} {af : Array Edge} {gd : Option (Nat × Bool)} {X Y : Nat}
   (hw : Region.wanted { dst := d, op := .binOp .and t x y u, type := ty, pos := pos, after := af, guard := gd } (yielded ops a.tmps) = true) (hx : a.eval x = .int .u64 (X : Nat)) (hy : a.eval y = .int .u64 (Y : Nat)) (hX : X < 18446744073709551616) (hY : Y < 18446744073709551616)
   (h : wpList P ops Q rest (a.put d (.int .u64 ((X &&& Y : Nat) : Int))) w) : wpList P ops Q ({ dst := d, op := .binOp .and t x y u, type := ty, pos := pos, after := af, guard := gd } :: rest) a w := wpList_run hw (op_andN rfl hx hy hX hY w) h
theorem op_shrN {P : Program} {o : Oper} {a : Act} {x y : Operand} {t u : TypeId} {X Y : Nat} (ho : o.op = .binOp .shr t x y u) (hx : a.eval x = .int .u64 (X : Nat)) (hy : a.eval y = .int .u64 (Y : Nat)) (hs : Y <= 64) (w : World) :
   (execOp a.eval o).run P w = .ok (.value (.int .u64 ((X / 2 ^ Y : Nat) : Int))) w := by
 exact op_shr ho hx hy hs w
theorem shrNP {P : Program} {t u : TypeId} {ops : Array Oper} {rest : List Oper} {Q : Exit -> Act -> World -> Prop} {a : Act} {w : World} {d : Option Tmp} {x y : Operand} {ty : TypeId} {pos : String} {af : Array Edge} {gd : Option (Nat × Bool)} {X Y : Nat}
   (hw : Region.wanted { dst := d, op := .binOp .shr t x y u, type := ty, pos := pos, after := af, guard := gd } (yielded ops a.tmps) = true) (hx : a.eval x = .int .u64 (X : Nat)) (hy : a.eval y = .int .u64 (Y : Nat)) (hs : Y <= 64)
   (h : wpList P ops Q rest (a.put d (.int .u64 ((X / 2 ^ Y : Nat) : Int))) w) : wpList P ops Q ({ dst := d, op := .binOp .shr t x y u, type := ty, pos := pos, after := af, guard := gd } :: rest) a w := wpList_run hw (op_shrN rfl hx hy hs w) h
theorem op_shlN {P : Program} {o : Oper} {a : Act} {x y : Operand} {t u : TypeId} {X Y : Nat} (ho : o.op = .binOp .shl t x y u) (hx : a.eval x = .int .u64 (X : Nat)) (hy : a.eval y = .int .u64 (Y : Nat)) (hs : Y <= 64) (w : World) :
   (execOp a.eval o).run P w = .ok (.value (.int .u64 ((X * 2 ^ Y % 18446744073709551616 : Nat) : Int))) w := by
 exact op_shl ho hx hy hs w
theorem shlNP {P : Program} {t u : TypeId} {ops : Array Oper} {rest : List Oper} {Q : Exit -> Act -> World -> Prop} {a : Act} {w : World} {d : Option Tmp} {x y : Operand} {ty : TypeId} {pos : String} {af : Array Edge} {gd : Option (Nat × Bool)} {X Y : Nat}
   (hw : Region.wanted { dst := d, op := .binOp .shl t x y u, type := ty, pos := pos, after := af, guard := gd } (yielded ops a.tmps) = true) (hx : a.eval x = .int .u64 (X : Nat)) (hy : a.eval y = .int .u64 (Y : Nat)) (hs : Y <= 64)
   (h : wpList P ops Q rest (a.put d (.int .u64 ((X * 2 ^ Y % 18446744073709551616 : Nat) : Int))) w) : wpList P ops Q ({ dst := d, op := .binOp .shl t x y u, type := ty, pos := pos, after := af, guard := gd } :: rest) a w := wpList_run hw (op_shlN rfl hx hy hs w) h
theorem op_orN {P : Program} {o : Oper} {a : Act} {x y : Operand} {t u : TypeId} {X Y : Nat} (ho : o.op = .binOp .or t x y u) (hx : a.eval x = .int .u64 (X : Nat)) (hy : a.eval y = .int .u64 (Y : Nat)) (hX : X < 18446744073709551616) (hY : Y < 18446744073709551616) (w : World) :
   (execOp a.eval o).run P w = .ok (.value (.int .u64 ((X ||| Y : Nat) : Int))) w := by
 exact op_or ho hx hy hX hY w
theorem orNP {P : Program} {t u : TypeId} {ops : Array Oper} {rest : List Oper} {Q : Exit -> Act -> World -> Prop} {a : Act} {w : World} {d : Option Tmp} {x y : Operand} {ty : TypeId} {pos : String} {af : Array Edge} {gd : Option (Nat × Bool)} {X Y : Nat}
   (hw : Region.wanted { dst := d, op := .binOp .or t x y u, type := ty, pos := pos, after := af, guard := gd } (yielded ops a.tmps) = true) (hx : a.eval x = .int .u64 (X : Nat)) (hy : a.eval y = .int .u64 (Y : Nat)) (hX : X < 18446744073709551616) (hY : Y < 18446744073709551616)
   (h : wpList P ops Q rest (a.put d (.int .u64 ((X ||| Y : Nat) : Int))) w) : wpList P ops Q ({ dst := d, op := .binOp .or t x y u, type := ty, pos := pos, after := af, guard := gd } :: rest) a w := wpList_run hw (op_orN rfl hx hy hX hY w) h
theorem op_geqB {P : Program} {o : Oper} {a : Act} {x y : Operand} {t u : TypeId} {X Y : Nat} (ho : o.op = .binOp .geq t x y u) (hx : a.eval x = .int .u64 (X : Nat)) (hy : a.eval y = .int .u64 (Y : Nat)) {b : Bool} (hb' : IsP (Y <= X) b) (w : World) :
   (execOp a.eval o).run P w = .ok (.value (.bool b)) w := by
 rw [<- show decide (Y <= X) = b from hb'.dec]
 unfold execOp
 simp only [ho, hx, hy]
 go_simp
 try (rw [Bool.eq_iff_iff]; simp; try omega)
theorem geqBP {P : Program} {t u : TypeId} {ops : Array Oper} {rest : List Oper} {Q : Exit -> Act -> World -> Prop} {a : Act} {w : World} {d : Option Tmp} {x y : Operand} {ty : TypeId} {pos : String} {af : Array Edge} {gd : Option (Nat × Bool)} {X Y : Nat}
   (hw : Region.wanted { dst := d, op := .binOp .geq t x y u, type := ty, pos := pos, after := af, guard := gd } (yielded ops a.tmps) = true) (hx : a.eval x = .int .u64 (X : Nat)) (hy : a.eval y = .int .u64 (Y : Nat)) {b : Bool} (hb' : IsP (Y <= X) b)
   (h : wpList P ops Q rest (a.put d (.bool b)) w) : wpList P ops Q ({ dst := d, op := .binOp .geq t x y u, type := ty, pos := pos, after := af, guard := gd } :: rest) a w := wpList_run hw (op_geqB rfl hx hy hb' w) h
theorem op_gtrB {P : Program} {o : Oper} {a : Act} {x y : Operand} {t u : TypeId} {X Y : Nat} (ho : o.op = .binOp .gtr t x y u) (hx : a.eval x = .int .u64 (X : Nat)) (hy : a.eval y = .int .u64 (Y : Nat)) {b : Bool} (hb' : IsP (Y < X) b) (w : World) :
   (execOp a.eval o).run P w = .ok (.value (.bool b)) w := by
 rw [<- show decide (Y < X) = b from hb'.dec]
 unfold execOp
 simp only [ho, hx, hy]
 go_simp
 try (rw [Bool.eq_iff_iff]; simp; try omega)
theorem gtrBP {P : Program} {t u : TypeId} {ops : Array Oper} {rest : List Oper} {Q : Exit -> Act -> World -> Prop} {a : Act} {w : World} {d : Option Tmp} {x y : Operand} {ty : TypeId} {pos : String} {af : Array Edge} {gd : Option (Nat × Bool)} {X Y : Nat}
   (hw : Region.wanted { dst := d, op := .binOp .gtr t x y u, type := ty, pos := pos, after := af, guard := gd } (yielded ops a.tmps) = true) (hx : a.eval x = .int .u64 (X : Nat)) (hy : a.eval y = .int .u64 (Y : Nat)) {b : Bool} (hb' : IsP (Y < X) b)
   (h : wpList P ops Q rest (a.put d (.bool b)) w) : wpList P ops Q ({ dst := d, op := .binOp .gtr t x y u, type := ty, pos := pos, after := af, guard := gd } :: rest) a w := wpList_run hw (op_gtrB rfl hx hy hb' w) h
theorem op_leqB {P : Program} {o : Oper} {a : Act} {x y : Operand} {t u : TypeId} {X Y : Nat} (ho : o.op = .binOp .leq t x y u) (hx : a.eval x = .int .u64 (X : Nat)) (hy : a.eval y = .int .u64 (Y : Nat)) {b : Bool} (hb' : IsP (X <= Y) b) (w : World) :
   (execOp a.eval o).run P w = .ok (.value (.bool b)) w := by
 rw [<- show decide (X <= Y) = b from hb'.dec]
 unfold execOp
 simp only [ho, hx, hy]
 go_simp
 try (rw [Bool.eq_iff_iff]; simp; try omega)
theorem leqBP {P : Program} {t u : TypeId} {ops : Array Oper} {rest : List Oper} {Q : Exit -> Act -> World -> Prop} {a : Act} {w : World} {d : Option Tmp} {x y : Operand} {ty : TypeId} {pos : String} {af : Array Edge} {gd : Option (Nat × Bool)} {X Y : Nat}
   (hw : Region.wanted { dst := d, op := .binOp .leq t x y u, type := ty, pos := pos, after := af, guard := gd } (yielded ops a.tmps) = true) (hx : a.eval x = .int .u64 (X : Nat)) (hy : a.eval y = .int .u64 (Y : Nat)) {b : Bool} (hb' : IsP (X <= Y) b)
   (h : wpList P ops Q rest (a.put d (.bool b)) w) : wpList P ops Q ({ dst := d, op := .binOp .leq t x y u, type := ty, pos := pos, after := af, guard := gd } :: rest) a w := wpList_run hw (op_leqB rfl hx hy hb' w) h
theorem op_eqlB {P : Program} {o : Oper} {a : Act} {x y : Operand} {t u : TypeId} {X Y : Nat} (ho : o.op = .binOp .eql t x y u) (hx : a.eval x = .int .u64 (X : Nat)) (hy : a.eval y = .int .u64 (Y : Nat)) {b : Bool} (hb' : IsP (X = Y) b) (w : World) :
   (execOp a.eval o).run P w = .ok (.value (.bool b)) w := by
 rw [<- show decide (X = Y) = b from hb'.dec]
 unfold execOp
 simp only [ho, hx, hy]
 go_simp
 try (rw [Bool.eq_iff_iff]; simp; try omega)
theorem eqlBP {P : Program} {t u : TypeId} {ops : Array Oper} {rest : List Oper} {Q : Exit -> Act -> World -> Prop} {a : Act} {w : World} {d : Option Tmp} {x y : Operand} {ty : TypeId} {pos : String} {af : Array Edge} {gd : Option (Nat × Bool)} {X Y : Nat}
   (hw : Region.wanted { dst := d, op := .binOp .eql t x y u, type := ty, pos := pos, after := af, guard := gd } (yielded ops a.tmps) = true) (hx : a.eval x = .int .u64 (X : Nat)) (hy : a.eval y = .int .u64 (Y : Nat)) {b : Bool} (hb' : IsP (X = Y) b)
   (h : wpList P ops Q rest (a.put d (.bool b)) w) : wpList P ops Q ({ dst := d, op := .binOp .eql t x y u, type := ty, pos := pos, after := af, guard := gd } :: rest) a w := wpList_run hw (op_eqlB rfl hx hy hb' w) h
end Go.Proofs.YtdpgpchcgmmklaaGreatDoor
namespace Go.Proofs.YtdpgpchcgmmklaaGreatDoor
def hq (u v n1 : Nat) : Nat := (4294967296 * u + n1) / v
structure Half (u v1 v0 n1 q r : Nat) : Prop where
 eq : q * v1 + r = u
 ge : hq u (4294967296 * v1 + v0) n1 <= q
 le : q <= 4294967297
 lt : r < 4294967296
theorem hq_lt {u v n1 : Nat} (hu : u < v) (h1 : n1 < 4294967296) : hq u v n1 < 4294967296 := by
 unfold hq
 rw [Nat.div_lt_iff_lt_mul (by omega)]
 omega
theorem half_start {u v1 v0 n1 : Nat} (hv1 : 2147483648 <= v1) (hv2 : v1 < 4294967296) (hv0 : v0 < 4294967296) (hn : n1 < 4294967296) (hu : u < 4294967296 * v1 + v0) : Half u v1 v0 n1 (u / v1) (u % v1) := by
 refine ⟨by rw [Nat.mul_comm]; exact Nat.div_add_mod u v1, ?_, ?_, Nat.lt_trans (Nat.mod_lt _ (by omega)) hv2⟩
 ·rw [Nat.le_div_iff_mul_le (by omega)]
  have h1 : hq u (4294967296 * v1 + v0) n1 * (4294967296 * v1 + v0) <= 4294967296 * u + n1 := Nat.div_mul_le_self _ _
  generalize hq u (4294967296 * v1 + v0) n1 = q at *
  rw [Nat.mul_add, Nat.mul_left_comm] at h1
  generalize q * v1 = p at *
  generalize q * v0 = p0 at *
  omega
 ·have : u / v1 < 4294967298 := by
   rw [Nat.div_lt_iff_lt_mul (by omega)]
   omega
  omega
theorem half_gt {u n1 p p0 r : Nat} (h : p + r = u) (hc : 4294967296 * r + n1 < p0) : 4294967296 * u + n1 < 4294967296 * p + p0 := by omega
theorem half_more {u v1 v0 n1 q r : Nat} (h : Half u v1 v0 n1 q r) (hu : u < 4294967296 * v1 + v0) (hn : n1 < 4294967296) (_ : 0 < v1) (hc : 4294967296 <= q \/ 4294967296 * r + n1 < q * v0) :
   1 <= q /\ (q - 1) * v1 + (r + v1) = u /\ hq u (4294967296 * v1 + v0) n1 <= q - 1 /\ q - 1 <= 4294967296 := by
 have h1 : hq u (4294967296 * v1 + v0) n1 < q := by
  rcases hc with hc | hc
  ·exact Nat.lt_of_lt_of_le (hq_lt hu hn) hc
  ·unfold hq
   rw [Nat.div_lt_iff_lt_mul (by omega), Nat.mul_add, Nat.mul_left_comm]
   exact half_gt h.eq hc
 obtain ⟨k, rfl⟩ : ∃ k, q = k + 1 := ⟨q - 1, by omega⟩
 have h2 := h.eq
 have h3 := h.le
 rw [Nat.add_mul] at h2
 simp only [Nat.add_sub_cancel]
 exact ⟨by omega, by omega, by omega, by omega⟩
theorem half_next {u v1 v0 n1 q r : Nat} (h : Half u v1 v0 n1 q r) (hu : u < 4294967296 * v1 + v0) (hn : n1 < 4294967296) (hv : 0 < v1) (hc : 4294967296 <= q \/ 4294967296 * r + n1 < q * v0) (hr : r + v1 < 4294967296) : Half u v1 v0 n1 (q - 1) (r + v1) := by
 obtain ⟨_, h2, h3, h4⟩ := half_more h hu hn hv hc
 exact ⟨h2, h3, by omega, hr⟩
theorem half_end {u v1 v0 n1 q r : Nat} (h1 : q * v1 + r = u) (h2 : hq u (4294967296 * v1 + v0) n1 <= q) (hv : 0 < v1) (hc : q * v0 <= 4294967296 * r + n1) : q = hq u (4294967296 * v1 + v0) n1 := by
 have h3 : q <= hq u (4294967296 * v1 + v0) n1 := by
  unfold hq
  rw [Nat.le_div_iff_mul_le (by omega), Nat.mul_add, Nat.mul_left_comm]
  generalize q * v1 = p at *
  generalize q * v0 = p0 at *
  omega
 omega
theorem half_break {u v1 v0 n1 q r : Nat} (h : Half u v1 v0 n1 q r) (hu : u < 4294967296 * v1 + v0) (hn : n1 < 4294967296) (hv : 0 < v1) (hv0 : v0 < 4294967296) (hc : 4294967296 <= q \/ 4294967296 * r + n1 < q * v0) (hr : 4294967296 <= r + v1) :
   q - 1 = hq u (4294967296 * v1 + v0) n1 := by
 obtain ⟨_, h2, h3, h4⟩ := half_more h hu hn hv hc
 refine half_end h2 h3 hv ?_
 have h5 : (q - 1) * v0 <= 4294967296 * 4294967295 := Nat.mul_le_mul h4 (by omega)
 omega
theorem half_stop {u v1 v0 n1 q r : Nat} (h : Half u v1 v0 n1 q r) (hv : 0 < v1) (hc : q * v0 <= 4294967296 * r + n1) : q = hq u (4294967296 * v1 + v0) n1 := half_end h.eq h.ge hv hc
theorem half_rest_aux {u v n1 p r : Nat} (hv : v < 18446744073709551616) (h2 : r < v) (h1 : p + r = 4294967296 * u + n1) :
   ((4294967296 * u % 18446744073709551616 + n1) % 18446744073709551616 + 18446744073709551616 - p % 18446744073709551616) % 18446744073709551616 = r := by omega
theorem half_rest {u v n1 : Nat} (hv : v < 18446744073709551616) (hv0 : 0 < v) :
   ((4294967296 * u % 18446744073709551616 + n1) % 18446744073709551616 + 18446744073709551616 - hq u v n1 * v % 18446744073709551616) % 18446744073709551616 = (4294967296 * u + n1) % v := by
 refine half_rest_aux hv (Nat.mod_lt _ hv0) ?_
 unfold hq
 rw [Nat.mul_comm]
 exact Nat.div_add_mod _ _
theorem half_both_aux {t v n0 q r : Nat} (hv0 : 0 < v) (h1 : v * q + r = t) : 4294967296 * q + (4294967296 * r + n0) / v = (4294967296 * t + n0) / v /\ (4294967296 * r + n0) % v = (4294967296 * t + n0) % v := by
 have e : 4294967296 * t + n0 = (4294967296 * r + n0) + v * (4294967296 * q) := by rw [<- h1]; grind
 rw [e]
 constructor
 ·rw [Nat.add_mul_div_left _ _ hv0]; omega
 ·rw [Nat.add_mul_mod_self_left]
theorem half_both {u v n1 n0 : Nat} (hv0 : 0 < v) :
   4294967296 * hq u v n1 + hq ((4294967296 * u + n1) % v) v n0 = (4294967296 * (4294967296 * u + n1) + n0) / v /\
   (4294967296 * ((4294967296 * u + n1) % v) + n0) % v = (4294967296 * (4294967296 * u + n1) + n0) % v :=
 half_both_aux hv0 (Nat.div_add_mod _ _)
end Go.Proofs.YtdpgpchcgmmklaaGreatDoor
namespace Go.Proofs.YtdpgpchcgmmklaaGreatDoor
open Go Go.RowKit
set_option maxRecDepth 100000
theorem and32 (x : Nat) : x &&& 4294967295 = x % 4294967296 := Nat.and_two_pow_sub_one_eq_mod x 32
theorem div64_pre {hi lo y : Nat} (hy : y < 18446744073709551616) (hlo : lo < 18446744073709551616) (hlt : hi < y) (s : Nat) (hs : s = 64 - Lib.bitLen y) :
   s < 64 /\ y * 2 ^ s % 18446744073709551616 = y * 2 ^ s /\ 9223372036854775808 <= y * 2 ^ s /\ y * 2 ^ s < 18446744073709551616 /\
   (hi * 2 ^ s % 18446744073709551616 ||| lo / 2 ^ (64 - s)) < y * 2 ^ s /\
   18446744073709551616 * (hi * 2 ^ s % 18446744073709551616 ||| lo / 2 ^ (64 - s)) + lo * 2 ^ s % 18446744073709551616 = (18446744073709551616 * hi + lo) * 2 ^ s := by
 have h0 : y ≠ 0 := by omega
 obtain ⟨b1, b2, b3, b4⟩ := bitLen_spec hy h0
 have e64 : 2 ^ s * 2 ^ (Lib.bitLen y) = (18446744073709551616 : Nat) := by rw [<- Nat.pow_add, show s + Lib.bitLen y = 64 by omega]
 have e63 : 2 ^ (Lib.bitLen y - 1) * 2 ^ s = (9223372036854775808 : Nat) := by rw [<- Nat.pow_add, show Lib.bitLen y - 1 + s = 63 by omega]
 have hs64 : s < 64 := by omega
 have h1 : 9223372036854775808 <= y * 2 ^ s := by rw [<- e63]; exact Nat.mul_le_mul_right _ b2
 have h2 : y * 2 ^ s < 18446744073709551616 := by
  rw [<- e64, Nat.mul_comm (2 ^ s)]
  exact Nat.mul_lt_mul_of_pos_right b3 (Nat.two_pow_pos s)
 have hps := Nat.two_pow_pos s
 have h3 : (hi + 1) * 2 ^ s <= y * 2 ^ s := Nat.mul_le_mul_right _ hlt
 rw [Nat.add_mul, Nat.one_mul] at h3
 have h4 : hi * 2 ^ s % 18446744073709551616 = hi * 2 ^ s := Nat.mod_eq_of_lt (by omega)
 have e2 : 2 ^ s * 2 ^ (64 - s) = (18446744073709551616 : Nat) := by rw [<- Nat.pow_add, show s + (64 - s) = 64 by omega]
 have h5 : lo / 2 ^ (64 - s) < 2 ^ s := by
  rw [Nat.div_lt_iff_lt_mul (Nat.two_pow_pos _), e2]; exact hlo
 have h6 : (hi * 2 ^ s ||| lo / 2 ^ (64 - s)) = hi * 2 ^ s + lo / 2 ^ (64 - s) := by rw [Nat.mul_comm]; exact or_add h5
 refine ⟨hs64, Nat.mod_eq_of_lt h2, h1, h2, by rw [h4, h6]; omega, ?_⟩
 rw [h4, h6]
 have h7 := shr_low (x := lo) (show s <= 64 by omega)
 have h8 := Nat.div_add_mod (lo * 2 ^ s) 18446744073709551616
 rw [<- h7, Nat.mul_add, Nat.add_mul, Nat.mul_assoc]
 generalize hi * 2 ^ s = a at *
 generalize lo * 2 ^ s = c at *
 omega
set_option maxRecDepth 100000 in
set_option maxHeartbeats 1000000 in
theorem div64_small (lo y : Nat) (hlo : lo < 18446744073709551616) (h0 : 0 < y) (w : World) :
   Calls Tryz.prog 99 #[.int .u64 (0 : Nat), .int .u64 lo, .int .u64 y] w fun e w' => e = .returned (.tuple #[.int .u64 ((lo / y : Nat) : Int), .int .u64 ((lo % y : Nat) : Int)]) /\ Up w w' := by
 have b0 : IsP (y = 0) false := IsP.no (by omega)
 have b1 : IsP (y <= 0) false := IsP.no (by omega)
 have b2 : IsP (0 = 0) true := IsP.yes rfl
 go_enter Tryz.func99, Tryz.ntmps99
 go_wp2_with (first | ((with_reducible apply eqlBP (Y := 0)); exact rfl; exact rfl; exact rfl; assumption) | ((with_reducible apply leqBP (Y := 0)); exact rfl; exact rfl; exact rfl; assumption))
 refine opU (S := (fun wq => Below w.heap.size w wq)) (req := (fun _ => true)) (fun _ _ h hu => below_up (h) hu) gUp (fun wS hSS hSu => ?_)
 have hSB := hSS
 refine tkP 0 (some 28) hSu ?_
 refine tkP 1 (some 29) hSu ?_
 refine tkT 2 (some 30) rfl hSu hSS ?_ (hy := fun w' hSw => op_quoN rfl rfl rfl hlo h0 _)
 refine tkP 3 (some 31) hSu ?_
 refine tkP 4 (some 32) hSu ?_
 refine tkT 5 (some 33) rfl hSu hSS ?_ (hy := fun w' hSw => op_remN rfl rfl rfl hlo h0 _)
 refine tkP 6 (some 6) hSu ?_
 refine tkP 7 (some 7) hSu ?_
 refine wpAnyU_done (by kernel_rfl) (fun wE huE => ?_) _
 have hSB := hSu.out _ _ hSS huE
 clear huE hSS
 go_wp2
 go_ret2
 exact ⟨rfl, hSB⟩
set_option maxRecDepth 100000 in
set_option maxHeartbeats 2000000 in
theorem div64_great (hi lo y : Nat) (hy : y < 18446744073709551616) (hlo : lo < 18446744073709551616) (hlt : hi < y) (h0 : 0 < hi) (w : World) :
   Calls Tryz.prog 99 #[.int .u64 hi, .int .u64 lo, .int .u64 y] w fun e w' => e = .returned (.tuple #[.int .u64 (((18446744073709551616 * hi + lo) / y : Nat) : Int), .int .u64 (((18446744073709551616 * hi + lo) % y : Nat) : Int)]) /\ Up w w' := by
 have b0 : IsP (y = 0) false := IsP.no (by omega)
 have b1 : IsP (y <= hi) false := IsP.no (by omega)
 have b2 : IsP (hi = 0) false := IsP.no (by omega)
 obtain ⟨s, es⟩ : ∃ s, s = 64 - Lib.bitLen y := ⟨_, rfl⟩
 obtain ⟨p1, p2, p3, p4, p5, p6⟩ := div64_pre hy hlo hlt s es
 have hbl := bitLen_spec hy (by omega)
 have hlz := fun w => Tryz.bits_LeadingZeros64 (y : Nat) w (by omega) (by omega)
 simp only [Int.toNat_natCast] at hlz
 have hcv : IntKind.u64.wrap (64 - (Lib.bitLen y : Int)) = (s : Int) := by rw [IntKind.wrap_u64]; omega
 have HLZ := hid hlz
 obtain ⟨_, _, _, hb64⟩ := hbl
 clear hlz es
 generalize Lib.bitLen y = bl at *
 -- the numbers, each under a name
 obtain ⟨V, eV⟩ : ∃ V, V = y * 2 ^ s := ⟨_, rfl⟩
 obtain ⟨L, eL⟩ : ∃ L, L = lo * 2 ^ s % 18446744073709551616 := ⟨_, rfl⟩
 obtain ⟨H, eH⟩ : ∃ H, H = hi * 2 ^ s % 18446744073709551616 := ⟨_, rfl⟩
 obtain ⟨M, eM⟩ : ∃ M, M = lo / 2 ^ (64 - s) := ⟨_, rfl⟩
 rw [<- eH, <- eM] at p5 p6
 obtain ⟨U, eU⟩ : ∃ U, U = (H ||| M) := ⟨_, rfl⟩
 rw [<- eV, <- eU] at p5
 rw [<- eL, <- eU] at p6
 rw [<- eV] at p2 p3 p4
 have hH : H < 18446744073709551616 := by rw [eH]; exact Nat.mod_lt _ (by decide)
 have hM : M < 18446744073709551616 := by rw [eM]; exact Nat.lt_of_le_of_lt (Nat.div_le_self _ _) hlo
 have hL : L < 18446744073709551616 := by rw [eL]; exact Nat.mod_lt _ (by decide)
 obtain ⟨V1, eV1⟩ : ∃ x, x = V / 2 ^ 32 := ⟨_, rfl⟩
 obtain ⟨V0, eV0⟩ : ∃ x, x = (V &&& 4294967295) := ⟨_, rfl⟩
 obtain ⟨L1, eL1⟩ : ∃ x, x = L / 2 ^ 32 := ⟨_, rfl⟩
 obtain ⟨L0, eL0⟩ : ∃ x, x = (L &&& 4294967295) := ⟨_, rfl⟩
 have HV : Hid (y * 2 ^ s % 18446744073709551616 = V) := hid (by rw [eV] at p2 ⊢; exact p2)
 have HH := hid eH.symm
 have HM := hid eM.symm
 have HU := hid eU.symm
 have HL := hid eL.symm
 have HV1 := hid eV1.symm
 have HV0 := hid eV0.symm
 have HL1 := hid eL1.symm
 have HL0 := hid eL0.symm
 have HM2 : Hid (lo / 2 ^ ((64 + 18446744073709551616 - s) % 18446744073709551616) = M) := hid (by rw [show (64 + 18446744073709551616 - s) % 18446744073709551616 = 64 - s by omega]; exact HM.out)
 rw [and32] at eV0 eL0
 have v1 : 2147483648 <= V1 := by omega
 have v2 : V1 < 4294967296 := by omega
 have v3 : V0 < 4294967296 := by omega
 have v4 : V = 4294967296 * V1 + V0 := by omega
 have l1 : L1 < 4294967296 := by omega
 have l0 : L0 < 4294967296 := by omega
 have l2 : L = 4294967296 * L1 + L0 := by omega
 have hU : U < 18446744073709551616 := by omega
 have HN := hid p6
 have HEV := hid eV
 have HV4 := hid v4
 have HL2 := hid l2
 have hV1p : 0 < V1 := by omega
 have hs64 : s <= 64 := by omega
 have hs64b : s < 18446744073709551616 := by omega
 have hs64c : (64 + 18446744073709551616 - s) % 18446744073709551616 <= 64 := by omega
 clear eV eL eH eM eU eV1 eV0 eL1 eL0 p6 p2 v4 l2
 obtain ⟨q0, eq0⟩ : ∃ x, x = U / V1 := ⟨_, rfl⟩
 obtain ⟨P0, eP0⟩ : ∃ x, x = q0 * V1 % 18446744073709551616 := ⟨_, rfl⟩
 have hq0 : q0 * V1 + U % V1 = U := by rw [eq0, Nat.mul_comm]; exact Nat.div_add_mod U V1
 obtain ⟨r0, er0⟩ : ∃ x, x = U % V1 := ⟨_, rfl⟩
 rw [<- er0] at hq0
 have hP0 : P0 < 18446744073709551616 := by rw [eP0]; exact Nat.mod_lt _ (by decide)
 have eP0' : P0 = q0 * V1 := by rw [eP0]; exact Nat.mod_eq_of_lt (by omega)
 have HQ0 := hid eq0.symm
 have HP0 := hid eP0.symm
 have HR0 : Hid ((U + 18446744073709551616 - P0) % 18446744073709551616 = r0) := hid (by omega)
 have hun := p5
 rw [HV4.out, Nat.mul_comm] at hun
 have hst := half_start v1 v2 v3 l1 (by rw [Nat.mul_comm]; exact hun)
 rw [<- eq0, <- er0] at hst
 have HST := hid hst
 have hun : U < 4294967296 * V1 + V0 := by rw [Nat.mul_comm]; exact hun
 clear eq0 eP0 hq0 er0 eP0' hst
 go_enter Tryz.func99, Tryz.ntmps99
 go_upto_block 0 with (first | ((with_reducible apply eqlBP (Y := 0)); exact rfl; exact rfl; exact rfl; (with_reducible assumption)) | ((with_reducible apply leqBP); exact rfl; exact rfl; exact rfl; (with_reducible assumption)) | (go_at_call 100; refine (HLZ.out _).mono ?_; rintro e w' ⟨rfl, rfl⟩) | ((with_reducible apply shrNP (Y := 32)); exact rfl; exact rfl; exact rfl; decide; (try rw [HV.out]); (try rw [HV1.out]); (try rw [HV0.out]); (try rw [HU.out]); (try rw [HL.out]); (try rw [HL1.out]); (try rw [HL0.out]); (try rw [HH.out]); (try rw [HM2.out]); (try rw [HQ0.out]); (try rw [HP0.out]); (try rw [HR0.out])) | ((with_reducible apply andNP (Y := 4294967295)); exact rfl; exact rfl; exact rfl; assumption; decide; (try rw [HV.out]); (try rw [HV1.out]); (try rw [HV0.out]); (try rw [HU.out]); (try rw [HL.out]); (try rw [HL1.out]); (try rw [HL0.out]); (try rw [HH.out]); (try rw [HM2.out]); (try rw [HQ0.out]); (try rw [HP0.out]); (try rw [HR0.out])) | ((with_reducible apply shlNP); exact rfl; exact rfl; exact rfl; exact hs64; (try rw [HV.out]); (try rw [HV1.out]); (try rw [HV0.out]); (try rw [HU.out]); (try rw [HL.out]); (try rw [HL1.out]); (try rw [HL0.out]); (try rw [HH.out]); (try rw [HM2.out]); (try rw [HQ0.out]); (try rw [HP0.out]); (try rw [HR0.out])) | ((with_reducible apply subNP (X := 64)); exact rfl; exact rfl; exact rfl; exact hs64b; (try rw [HV.out]); (try rw [HV1.out]); (try rw [HV0.out]); (try rw [HU.out]); (try rw [HL.out]); (try rw [HL1.out]); (try rw [HL0.out]); (try rw [HH.out]); (try rw [HM2.out]); (try rw [HQ0.out]); (try rw [HP0.out]); (try rw [HR0.out])) | ((with_reducible apply shrNP); exact rfl; exact rfl; exact rfl; exact hs64c; (try rw [HV.out]); (try rw [HV1.out]); (try rw [HV0.out]); (try rw [HU.out]); (try rw [HL.out]); (try rw [HL1.out]); (try rw [HL0.out]); (try rw [HH.out]); (try rw [HM2.out]); (try rw [HQ0.out]); (try rw [HP0.out]); (try rw [HR0.out])) | ((with_reducible apply orNP); exact rfl; exact rfl; exact rfl; assumption; assumption; (try rw [HV.out]); (try rw [HV1.out]); (try rw [HV0.out]); (try rw [HU.out]); (try rw [HL.out]); (try rw [HL1.out]); (try rw [HL0.out]); (try rw [HH.out]); (try rw [HM2.out]); (try rw [HQ0.out]); (try rw [HP0.out]); (try rw [HR0.out])) | ((with_reducible apply quoNP); exact rfl; exact rfl; exact rfl; assumption; assumption; (try rw [HV.out]); (try rw [HV1.out]); (try rw [HV0.out]); (try rw [HU.out]); (try rw [HL.out]); (try rw [HL1.out]); (try rw [HL0.out]); (try rw [HH.out]); (try rw [HM2.out]); (try rw [HQ0.out]); (try rw [HP0.out]); (try rw [HR0.out])) | ((with_reducible apply mulNP); exact rfl; exact rfl; exact rfl; (try rw [HV.out]); (try rw [HV1.out]); (try rw [HV0.out]); (try rw [HU.out]); (try rw [HL.out]); (try rw [HL1.out]); (try rw [HL0.out]); (try rw [HH.out]); (try rw [HM2.out]); (try rw [HQ0.out]); (try rw [HP0.out]); (try rw [HR0.out])) | ((with_reducible apply subNP); exact rfl; exact rfl; exact rfl; assumption; (try rw [HV.out]); (try rw [HV1.out]); (try rw [HV0.out]); (try rw [HU.out]); (try rw [HL.out]); (try rw [HL1.out]); (try rw [HL0.out]); (try rw [HH.out]); (try rw [HM2.out]); (try rw [HQ0.out]); (try rw [HP0.out]); (try rw [HR0.out])))
 go_cut [15] (fun qv wc => qv = .int .u64 ((hq U (4294967296 * V1 + V0) L1 : Nat) : Int) /\ wc = w')
 case first =>
  go_wp2
  go_loop [15, 16] (fun qv rv => ∃ q r : Nat, qv = .int .u64 (q : Nat) /\ rv = .int .u64 (r : Nat) /\ Half U V1 V0 L1 q r) (fun qv _ => (intOf qv).toNat)
  case atStart => exact ⟨_, _, rfl, rfl, HST.out⟩
  case round =>
   obtain ⟨q, r, rfl, rfl, hh⟩ := hrel
   have hr := hh.lt
   have hql := hh.le
   obtain ⟨q', eq'⟩ : ∃ q', q' = q - 1 := ⟨_, rfl⟩
   obtain ⟨r', er'⟩ : ∃ r', r' = r + V1 := ⟨_, rfl⟩
   have HH := hid hh
   have HEQ := hid eq'
   have HER := hid er'
   have HR' : Hid ((r + V1) % 18446744073709551616 = r') := hid (by omega)
   by_cases hqb : 4294967296 <= q
   ·have hc : 4294967296 <= q \/ 4294967296 * r + L1 < q * V0 := .inl hqb
    have b3 : IsP (4294967296 <= q) true := IsP.yes hqb
    have hmore := half_more HH.out hun l1 hV1p hc
    have hq1 := hmore.1
    have HQ' : Hid ((q + 18446744073709551616 - 1) % 18446744073709551616 = q') := hid (by omega)
    have hmeas : q' < q := by omega
    by_cases hrb : 4294967296 <= r'
    ·have hbr := half_break HH.out hun l1 hV1p v3 hc (by omega)
     have b4 : IsP (4294967296 <= r') true := IsP.yes hrb
     rw [<- eq'] at hbr
     have HB := hid hbr
     clear hmore hc hrb hbr hh eq' er'
     go_wp2_with (first | ((with_reducible apply geqBP (Y := 4294967296)); exact rfl; exact rfl; exact rfl; (with_reducible assumption); (try simp only [Act.put, pu1, pu2, pu3])) | ((with_reducible apply gtrBP); exact rfl; exact rfl; exact rfl; (with_reducible assumption); (try simp only [Act.put, pu1, pu2, pu3])) | ((with_reducible apply mulNP (X := 4294967296)); exact rfl; exact rfl; exact rfl; rw [HRR.out]; (try simp only [Act.put, pu1, pu2, pu3])) | ((with_reducible apply mulNP); exact rfl; exact rfl; exact rfl; rw [HPV.out]; (try simp only [Act.put, pu1, pu2, pu3])) | ((with_reducible apply subNP (Y := 1)); exact rfl; exact rfl; exact rfl; decide; rw [HQ'.out]; (try simp only [Act.put, pu1, pu2, pu3])) | ((with_reducible apply addNP); exact rfl; exact rfl; exact rfl; (first | rw [HT.out] | rw [HR'.out]); (try simp only [Act.put, pu1, pu2, pu3])))
     go_meet
     case rel => exact ⟨by rw [HB.out], rfl⟩
    ·have hnx := half_next HH.out hun l1 hV1p hc (by omega)
     have b4 : IsP (4294967296 <= r') false := IsP.no hrb
     rw [<- eq', <- er'] at hnx
     have HB := hid hnx
     clear hmore hc hrb hnx hh eq' er'
     go_wp2_with (first | ((with_reducible apply geqBP (Y := 4294967296)); exact rfl; exact rfl; exact rfl; (with_reducible assumption); (try simp only [Act.put, pu1, pu2, pu3])) | ((with_reducible apply gtrBP); exact rfl; exact rfl; exact rfl; (with_reducible assumption); (try simp only [Act.put, pu1, pu2, pu3])) | ((with_reducible apply mulNP (X := 4294967296)); exact rfl; exact rfl; exact rfl; rw [HRR.out]; (try simp only [Act.put, pu1, pu2, pu3])) | ((with_reducible apply mulNP); exact rfl; exact rfl; exact rfl; rw [HPV.out]; (try simp only [Act.put, pu1, pu2, pu3])) | ((with_reducible apply subNP (Y := 1)); exact rfl; exact rfl; exact rfl; decide; rw [HQ'.out]; (try simp only [Act.put, pu1, pu2, pu3])) | ((with_reducible apply addNP); exact rfl; exact rfl; exact rfl; (first | rw [HT.out] | rw [HR'.out]); (try simp only [Act.put, pu1, pu2, pu3])))
     go_round
     case rel => exact ⟨q', r', rfl, rfl, HB.out⟩
     case measure => simp [intOf]; omega
   ·have b3 : IsP (4294967296 <= q) false := IsP.no hqb
    have hpv : q * V0 <= 4294967295 * 4294967295 := Nat.mul_le_mul (by omega) (by omega)
    obtain ⟨PV, ePV⟩ : ∃ x, x = q * V0 := ⟨_, rfl⟩
    have HPV : Hid (q * V0 % 18446744073709551616 = PV) := hid (by rw [ePV]; exact Nat.mod_eq_of_lt (by omega))
    obtain ⟨RR, eRR⟩ : ∃ x, x = 4294967296 * r := ⟨_, rfl⟩
    have HRR : Hid (4294967296 * r % 18446744073709551616 = RR) := hid (by omega)
    obtain ⟨T, eT⟩ : ∃ x, x = RR + L1 := ⟨_, rfl⟩
    have HT : Hid ((RR + L1) % 18446744073709551616 = T) := hid (by omega)
    by_cases hg : T < PV
    ·have hc : 4294967296 <= q \/ 4294967296 * r + L1 < q * V0 := .inr (by omega)
     have b5 : IsP (T < PV) true := IsP.yes hg
     clear hpv ePV eRR eT hqb hg
     have hmore := half_more HH.out hun l1 hV1p hc
     have hq1 := hmore.1
     have HQ' : Hid ((q + 18446744073709551616 - 1) % 18446744073709551616 = q') := hid (by omega)
     have hmeas : q' < q := by omega
     by_cases hrb : 4294967296 <= r'
     ·have hbr := half_break HH.out hun l1 hV1p v3 hc (by omega)
      have b4 : IsP (4294967296 <= r') true := IsP.yes hrb
      rw [<- eq'] at hbr
      have HB := hid hbr
      clear hmore hc hrb hbr hh eq' er'
      go_wp2_with (first | ((with_reducible apply geqBP (Y := 4294967296)); exact rfl; exact rfl; exact rfl; (with_reducible assumption); (try simp only [Act.put, pu1, pu2, pu3])) | ((with_reducible apply gtrBP); exact rfl; exact rfl; exact rfl; (with_reducible assumption); (try simp only [Act.put, pu1, pu2, pu3])) | ((with_reducible apply mulNP (X := 4294967296)); exact rfl; exact rfl; exact rfl; rw [HRR.out]; (try simp only [Act.put, pu1, pu2, pu3])) | ((with_reducible apply mulNP); exact rfl; exact rfl; exact rfl; rw [HPV.out]; (try simp only [Act.put, pu1, pu2, pu3])) | ((with_reducible apply subNP (Y := 1)); exact rfl; exact rfl; exact rfl; decide; rw [HQ'.out]; (try simp only [Act.put, pu1, pu2, pu3])) | ((with_reducible apply addNP); exact rfl; exact rfl; exact rfl; (first | rw [HT.out] | rw [HR'.out]); (try simp only [Act.put, pu1, pu2, pu3])))
      go_meet
      case rel => exact ⟨by rw [HB.out], rfl⟩
     ·have hnx := half_next HH.out hun l1 hV1p hc (by omega)
      have b4 : IsP (4294967296 <= r') false := IsP.no hrb
      rw [<- eq', <- er'] at hnx
      have HB := hid hnx
      clear hmore hc hrb hnx hh eq' er'
      go_wp2_with (first | ((with_reducible apply geqBP (Y := 4294967296)); exact rfl; exact rfl; exact rfl; (with_reducible assumption); (try simp only [Act.put, pu1, pu2, pu3])) | ((with_reducible apply gtrBP); exact rfl; exact rfl; exact rfl; (with_reducible assumption); (try simp only [Act.put, pu1, pu2, pu3])) | ((with_reducible apply mulNP (X := 4294967296)); exact rfl; exact rfl; exact rfl; rw [HRR.out]; (try simp only [Act.put, pu1, pu2, pu3])) | ((with_reducible apply mulNP); exact rfl; exact rfl; exact rfl; rw [HPV.out]; (try simp only [Act.put, pu1, pu2, pu3])) | ((with_reducible apply subNP (Y := 1)); exact rfl; exact rfl; exact rfl; decide; rw [HQ'.out]; (try simp only [Act.put, pu1, pu2, pu3])) | ((with_reducible apply addNP); exact rfl; exact rfl; exact rfl; (first | rw [HT.out] | rw [HR'.out]); (try simp only [Act.put, pu1, pu2, pu3])))
      go_round
      case rel => exact ⟨q', r', rfl, rfl, HB.out⟩
      case measure => simp [intOf]; omega
    ·have hst := half_stop HH.out hV1p (show q * V0 <= 4294967296 * r + L1 by omega)
     have b5 : IsP (T < PV) false := IsP.no hg
     have HB := hid hst
     clear hst hpv ePV eRR eT hqb hg hh eq' er'
     go_wp2_with (first | ((with_reducible apply geqBP (Y := 4294967296)); exact rfl; exact rfl; exact rfl; (with_reducible assumption); (try simp only [Act.put, pu1, pu2, pu3])) | ((with_reducible apply gtrBP); exact rfl; exact rfl; exact rfl; (with_reducible assumption); (try simp only [Act.put, pu1, pu2, pu3])) | ((with_reducible apply mulNP (X := 4294967296)); exact rfl; exact rfl; exact rfl; rw [HRR.out]; (try simp only [Act.put, pu1, pu2, pu3])) | ((with_reducible apply mulNP); exact rfl; exact rfl; exact rfl; rw [HPV.out]; (try simp only [Act.put, pu1, pu2, pu3])) | ((with_reducible apply subNP (Y := 1)); exact rfl; exact rfl; exact rfl; decide; rw [HQ'.out]; (try simp only [Act.put, pu1, pu2, pu3])) | ((with_reducible apply addNP); exact rfl; exact rfl; exact rfl; (first | rw [HT.out] | rw [HR'.out]); (try simp only [Act.put, pu1, pu2, pu3])))
     go_meet
     case rel => exact ⟨by rw [HB.out], rfl⟩
 case rest =>
  obtain ⟨rfl, rfl⟩ := hcut
  have hVV : 4294967296 * V1 + V0 = V := HV4.out.symm
  rw [hVV]
  clear hVV
  have hVp : 0 < V := by omega
  obtain ⟨Q1, eQ1⟩ : ∃ x, x = hq U V L1 := ⟨_, rfl⟩
  rw [<- eQ1]
  obtain ⟨U2, eU2⟩ : ∃ x, x = (4294967296 * U + L1) % V := ⟨_, rfl⟩
  have hr2 := half_rest (n1 := L1) (u := U) p4 hVp
  rw [<- eQ1, <- eU2, Nat.mul_comm 4294967296 U] at hr2
  have hU2V : U2 < V := by rw [eU2]; exact Nat.mod_lt _ hVp
  have hU2 : U2 < 18446744073709551616 := by omega
  obtain ⟨A1, eA1⟩ : ∃ x, x = U * 4294967296 % 18446744073709551616 := ⟨_, rfl⟩
  rw [<- eA1] at hr2
  obtain ⟨A2, eA2⟩ : ∃ x, x = (A1 + L1) % 18446744073709551616 := ⟨_, rfl⟩
  rw [<- eA2] at hr2
  obtain ⟨A3, eA3⟩ : ∃ x, x = Q1 * V % 18446744073709551616 := ⟨_, rfl⟩
  rw [<- eA3] at hr2
  have hA3 : A3 < 18446744073709551616 := by rw [eA3]; exact Nat.mod_lt _ (by decide)
  have HA1 := hid eA1.symm
  have HA2 := hid eA2.symm
  have HA3 := hid eA3.symm
  have HU2 := hid hr2
  obtain ⟨k0, ek0⟩ : ∃ x, x = U2 / V1 := ⟨_, rfl⟩
  obtain ⟨k2, ek2⟩ : ∃ x, x = U2 % V1 := ⟨_, rfl⟩
  have hk0 : k0 * V1 + k2 = U2 := by rw [ek0, ek2, Nat.mul_comm]; exact Nat.div_add_mod U2 V1
  obtain ⟨K1, eK1⟩ : ∃ x, x = k0 * V1 % 18446744073709551616 := ⟨_, rfl⟩
  have hK1 : K1 < 18446744073709551616 := by rw [eK1]; exact Nat.mod_lt _ (by decide)
  have eK1' : K1 = k0 * V1 := by rw [eK1]; exact Nat.mod_eq_of_lt (by omega)
  have HK0 := hid ek0.symm
  have HK1 := hid eK1.symm
  have HK2 : Hid ((U2 + 18446744073709551616 - K1) % 18446744073709551616 = k2) := hid (by omega)
  have hun2' : U2 < V1 * 4294967296 + V0 := by rw [Nat.mul_comm, <- HV4.out]; exact hU2V
  have hun2 : U2 < 4294967296 * V1 + V0 := by rw [<- HV4.out]; exact hU2V
  have hst2 := half_start v1 v2 v3 l0 hun2
  rw [<- ek0, <- ek2] at hst2
  have HST2 := hid hst2
  have HQ1 := hid eQ1
  have HEU2 := hid eU2
  clear eQ1 eU2 hr2 eA1 eA2 eA3 ek0 ek2 hk0 eK1 eK1' hst2 hun2' hU2V
  go_upto_block 2 with (first | ((with_reducible apply mulNP (Y := 4294967296)); exact rfl; exact rfl; exact rfl; rw [HA1.out]; (try simp only [Act.put, pu1, pu2, pu3])) | ((with_reducible apply mulNP); exact rfl; exact rfl; exact rfl; (first | rw [HA3.out] | rw [HK1.out]); (try simp only [Act.put, pu1, pu2, pu3])) | ((with_reducible apply addNP); exact rfl; exact rfl; exact rfl; rw [HA2.out]; (try simp only [Act.put, pu1, pu2, pu3])) | ((with_reducible apply quoNP); exact rfl; exact rfl; exact rfl; exact hU2; exact hV1p; rw [HK0.out]; (try simp only [Act.put, pu1, pu2, pu3])) | ((with_reducible apply subNP); exact rfl; exact rfl; exact rfl; (first | exact hA3 | exact hK1); (first | rw [HU2.out] | rw [HK2.out]); (try simp only [Act.put, pu1, pu2, pu3])))
  go_cut [18] (fun qv wc2 => qv = .int .u64 ((hq U2 (4294967296 * V1 + V0) L0 : Nat) : Int) /\ wc2 = wc)
  case first =>
   go_wp2
   go_loop [16, 18] (fun rv qv => ∃ q r : Nat, qv = .int .u64 (q : Nat) /\ rv = .int .u64 (r : Nat) /\ Half U2 V1 V0 L0 q r) (fun _ qv => (intOf qv).toNat)
   case atStart => exact ⟨_, _, rfl, rfl, HST2.out⟩
   case round =>
    obtain ⟨q, r, rfl, rfl, hh⟩ := hrel
    have hr := hh.lt
    have hql := hh.le
    obtain ⟨q', eq'⟩ : ∃ q', q' = q - 1 := ⟨_, rfl⟩
    obtain ⟨r', er'⟩ : ∃ r', r' = r + V1 := ⟨_, rfl⟩
    have HH := hid hh
    have HEQ := hid eq'
    have HER := hid er'
    have HR' : Hid ((r + V1) % 18446744073709551616 = r') := hid (by omega)
    by_cases hqb : 4294967296 <= q
    ·have hc : 4294967296 <= q \/ 4294967296 * r + L0 < q * V0 := .inl hqb
     have b3 : IsP (4294967296 <= q) true := IsP.yes hqb
     have hmore := half_more HH.out hun2 l0 hV1p hc
     have hq1 := hmore.1
     have HQ' : Hid ((q + 18446744073709551616 - 1) % 18446744073709551616 = q') := hid (by omega)
     have hmeas : q' < q := by omega
     by_cases hrb : 4294967296 <= r'
     ·have hbr := half_break HH.out hun2 l0 hV1p v3 hc (by omega)
      have b4 : IsP (4294967296 <= r') true := IsP.yes hrb
      rw [<- eq'] at hbr
      have HB := hid hbr
      clear hmore hc hrb hbr hh eq' er'
      go_wp2_with (first | ((with_reducible apply geqBP (Y := 4294967296)); exact rfl; exact rfl; exact rfl; (with_reducible assumption); (try simp only [Act.put, pu1, pu2, pu3])) | ((with_reducible apply gtrBP); exact rfl; exact rfl; exact rfl; (with_reducible assumption); (try simp only [Act.put, pu1, pu2, pu3])) | ((with_reducible apply mulNP (X := 4294967296)); exact rfl; exact rfl; exact rfl; rw [HRR.out]; (try simp only [Act.put, pu1, pu2, pu3])) | ((with_reducible apply mulNP); exact rfl; exact rfl; exact rfl; rw [HPV.out]; (try simp only [Act.put, pu1, pu2, pu3])) | ((with_reducible apply subNP (Y := 1)); exact rfl; exact rfl; exact rfl; decide; rw [HQ'.out]; (try simp only [Act.put, pu1, pu2, pu3])) | ((with_reducible apply addNP); exact rfl; exact rfl; exact rfl; (first | rw [HT.out] | rw [HR'.out]); (try simp only [Act.put, pu1, pu2, pu3])))
      go_meet
      case rel => exact ⟨by rw [HB.out], rfl⟩
     ·have hnx := half_next HH.out hun2 l0 hV1p hc (by omega)
      have b4 : IsP (4294967296 <= r') false := IsP.no hrb
      rw [<- eq', <- er'] at hnx
      have HB := hid hnx
      clear hmore hc hrb hnx hh eq' er'
      go_wp2_with (first | ((with_reducible apply geqBP (Y := 4294967296)); exact rfl; exact rfl; exact rfl; (with_reducible assumption); (try simp only [Act.put, pu1, pu2, pu3])) | ((with_reducible apply gtrBP); exact rfl; exact rfl; exact rfl; (with_reducible assumption); (try simp only [Act.put, pu1, pu2, pu3])) | ((with_reducible apply mulNP (X := 4294967296)); exact rfl; exact rfl; exact rfl; rw [HRR.out]; (try simp only [Act.put, pu1, pu2, pu3])) | ((with_reducible apply mulNP); exact rfl; exact rfl; exact rfl; rw [HPV.out]; (try simp only [Act.put, pu1, pu2, pu3])) | ((with_reducible apply subNP (Y := 1)); exact rfl; exact rfl; exact rfl; decide; rw [HQ'.out]; (try simp only [Act.put, pu1, pu2, pu3])) | ((with_reducible apply addNP); exact rfl; exact rfl; exact rfl; (first | rw [HT.out] | rw [HR'.out]); (try simp only [Act.put, pu1, pu2, pu3])))
      go_round
      case rel => exact ⟨q', r', rfl, rfl, HB.out⟩
      case measure => simp [intOf]; omega
    ·have b3 : IsP (4294967296 <= q) false := IsP.no hqb
     have hpv : q * V0 <= 4294967295 * 4294967295 := Nat.mul_le_mul (by omega) (by omega)
     obtain ⟨PV, ePV⟩ : ∃ x, x = q * V0 := ⟨_, rfl⟩
     have HPV : Hid (q * V0 % 18446744073709551616 = PV) := hid (by rw [ePV]; exact Nat.mod_eq_of_lt (by omega))
     obtain ⟨RR, eRR⟩ : ∃ x, x = 4294967296 * r := ⟨_, rfl⟩
     have HRR : Hid (4294967296 * r % 18446744073709551616 = RR) := hid (by omega)
     obtain ⟨T, eT⟩ : ∃ x, x = RR + L0 := ⟨_, rfl⟩
     have HT : Hid ((RR + L0) % 18446744073709551616 = T) := hid (by omega)
     by_cases hg : T < PV
     ·have hc : 4294967296 <= q \/ 4294967296 * r + L0 < q * V0 := .inr (by omega)
      have b5 : IsP (T < PV) true := IsP.yes hg
      clear hpv ePV eRR eT hqb hg
      have hmore := half_more HH.out hun2 l0 hV1p hc
      have hq1 := hmore.1
      have HQ' : Hid ((q + 18446744073709551616 - 1) % 18446744073709551616 = q') := hid (by omega)
      have hmeas : q' < q := by omega
      by_cases hrb : 4294967296 <= r'
      ·have hbr := half_break HH.out hun2 l0 hV1p v3 hc (by omega)
       have b4 : IsP (4294967296 <= r') true := IsP.yes hrb
       rw [<- eq'] at hbr
       have HB := hid hbr
       clear hmore hc hrb hbr hh eq' er'
       go_wp2_with (first | ((with_reducible apply geqBP (Y := 4294967296)); exact rfl; exact rfl; exact rfl; (with_reducible assumption); (try simp only [Act.put, pu1, pu2, pu3])) | ((with_reducible apply gtrBP); exact rfl; exact rfl; exact rfl; (with_reducible assumption); (try simp only [Act.put, pu1, pu2, pu3])) | ((with_reducible apply mulNP (X := 4294967296)); exact rfl; exact rfl; exact rfl; rw [HRR.out]; (try simp only [Act.put, pu1, pu2, pu3])) | ((with_reducible apply mulNP); exact rfl; exact rfl; exact rfl; rw [HPV.out]; (try simp only [Act.put, pu1, pu2, pu3])) | ((with_reducible apply subNP (Y := 1)); exact rfl; exact rfl; exact rfl; decide; rw [HQ'.out]; (try simp only [Act.put, pu1, pu2, pu3])) | ((with_reducible apply addNP); exact rfl; exact rfl; exact rfl; (first | rw [HT.out] | rw [HR'.out]); (try simp only [Act.put, pu1, pu2, pu3])))
       go_meet
       case rel => exact ⟨by rw [HB.out], rfl⟩
      ·have hnx := half_next HH.out hun2 l0 hV1p hc (by omega)
       have b4 : IsP (4294967296 <= r') false := IsP.no hrb
       rw [<- eq', <- er'] at hnx
       have HB := hid hnx
       clear hmore hc hrb hnx hh eq' er'
       go_wp2_with (first | ((with_reducible apply geqBP (Y := 4294967296)); exact rfl; exact rfl; exact rfl; (with_reducible assumption); (try simp only [Act.put, pu1, pu2, pu3])) | ((with_reducible apply gtrBP); exact rfl; exact rfl; exact rfl; (with_reducible assumption); (try simp only [Act.put, pu1, pu2, pu3])) | ((with_reducible apply mulNP (X := 4294967296)); exact rfl; exact rfl; exact rfl; rw [HRR.out]; (try simp only [Act.put, pu1, pu2, pu3])) | ((with_reducible apply mulNP); exact rfl; exact rfl; exact rfl; rw [HPV.out]; (try simp only [Act.put, pu1, pu2, pu3])) | ((with_reducible apply subNP (Y := 1)); exact rfl; exact rfl; exact rfl; decide; rw [HQ'.out]; (try simp only [Act.put, pu1, pu2, pu3])) | ((with_reducible apply addNP); exact rfl; exact rfl; exact rfl; (first | rw [HT.out] | rw [HR'.out]); (try simp only [Act.put, pu1, pu2, pu3])))
       go_round
       case rel => exact ⟨q', r', rfl, rfl, HB.out⟩
       case measure => simp [intOf]; omega
     ·have hst := half_stop HH.out hV1p (show q * V0 <= 4294967296 * r + L0 by omega)
      have b5 : IsP (T < PV) false := IsP.no hg
      have HB := hid hst
      clear hst hpv ePV eRR eT hqb hg hh eq' er'
      go_wp2_with (first | ((with_reducible apply geqBP (Y := 4294967296)); exact rfl; exact rfl; exact rfl; (with_reducible assumption); (try simp only [Act.put, pu1, pu2, pu3])) | ((with_reducible apply gtrBP); exact rfl; exact rfl; exact rfl; (with_reducible assumption); (try simp only [Act.put, pu1, pu2, pu3])) | ((with_reducible apply mulNP (X := 4294967296)); exact rfl; exact rfl; exact rfl; rw [HRR.out]; (try simp only [Act.put, pu1, pu2, pu3])) | ((with_reducible apply mulNP); exact rfl; exact rfl; exact rfl; rw [HPV.out]; (try simp only [Act.put, pu1, pu2, pu3])) | ((with_reducible apply subNP (Y := 1)); exact rfl; exact rfl; exact rfl; decide; rw [HQ'.out]; (try simp only [Act.put, pu1, pu2, pu3])) | ((with_reducible apply addNP); exact rfl; exact rfl; exact rfl; (first | rw [HT.out] | rw [HR'.out]); (try simp only [Act.put, pu1, pu2, pu3])))
      go_meet
      case rel => exact ⟨by rw [HB.out], rfl⟩
  case rest =>
   obtain ⟨rfl, rfl⟩ := hcut
   have hVV : 4294967296 * V1 + V0 = V := HV4.out.symm
   rw [hVV]
   clear hVV
   have hbo := half_both (u := U) (n1 := L1) (n0 := L0) hVp
   rw [<- HEU2.out, <- HQ1.out] at hbo
   obtain ⟨Q0, eQ0⟩ : ∃ x, x = hq U2 V L0 := ⟨_, rfl⟩
   have hr3 := half_rest (n1 := L0) (u := U2) p4 hVp
   rw [<- eQ0] at hbo hr3 ⊢
   obtain ⟨hb1, hb2⟩ := hbo
   have hN : 4294967296 * (4294967296 * U + L1) + L0 = (18446744073709551616 * hi + lo) * 2 ^ s := by rw [<- HN.out, HL2.out]; omega
   rw [hN, HEV.out, Nat.mul_div_mul_right _ _ (Nat.two_pow_pos s)] at hb1
   rw [hN] at hb2
   rw [hb2, HEV.out, Nat.mul_mod_mul_right, Nat.mul_comm 4294967296 U2] at hr3
   obtain ⟨qq, eqq⟩ : ∃ x, x = (18446744073709551616 * hi + lo) / y := ⟨_, rfl⟩
   obtain ⟨rr, err⟩ : ∃ x, x = (18446744073709551616 * hi + lo) % y := ⟨_, rfl⟩
   have hqq : qq < 18446744073709551616 := by rw [eqq, Nat.div_lt_iff_lt_mul (by omega)]; omega
   rw [<- eqq] at hb1
   rw [<- err] at hr3
   have Hqq := hid eqq
   have Hrr := hid err
   obtain ⟨B1, eB1⟩ : ∃ x, x = Q1 * 4294967296 % 18446744073709551616 := ⟨_, rfl⟩
   have HB1 := hid eB1.symm
   have HB2 : Hid ((B1 + Q0) % 18446744073709551616 = qq) := hid (by omega)
   obtain ⟨C1, eC1⟩ : ∃ x, x = U2 * 4294967296 % 18446744073709551616 := ⟨_, rfl⟩
   rw [<- eC1] at hr3
   obtain ⟨C2, eC2⟩ : ∃ x, x = (C1 + L0) % 18446744073709551616 := ⟨_, rfl⟩
   rw [<- eC2] at hr3
   obtain ⟨C3, eC3⟩ : ∃ x, x = Q0 * (y * 2 ^ s) % 18446744073709551616 := ⟨_, rfl⟩
   rw [<- eC3] at hr3
   rw [<- HEV.out] at eC3
   have hC3 : C3 < 18446744073709551616 := by rw [eC3]; exact Nat.mod_lt _ (by decide)
   have HC1 := hid eC1.symm
   have HC2 := hid eC2.symm
   have HC3 := hid eC3.symm
   have HC4 := hid hr3
   have HC5 : Hid (rr * 2 ^ s / 2 ^ s = rr) := hid (Nat.mul_div_cancel _ (Nat.two_pow_pos s))
   clear hb1 hb2 hN hr3 eqq err eB1 eC1 eC2 eC3 eQ0
   go_wp2_with (first | ((with_reducible apply mulNP (Y := 4294967296)); exact rfl; exact rfl; exact rfl; (first | rw [HB1.out] | rw [HC1.out]); (try simp only [Act.put, pu1, pu2, pu3])) | ((with_reducible apply mulNP); exact rfl; exact rfl; exact rfl; rw [HC3.out]; (try simp only [Act.put, pu1, pu2, pu3])) | ((with_reducible apply addNP); exact rfl; exact rfl; exact rfl; (first | rw [HB2.out] | rw [HC2.out]); (try simp only [Act.put, pu1, pu2, pu3])) | ((with_reducible apply subNP); exact rfl; exact rfl; exact rfl; exact hC3; rw [HC4.out]; (try simp only [Act.put, pu1, pu2, pu3])) | ((with_reducible apply shrNP); exact rfl; exact rfl; exact rfl; exact hs64; rw [HC5.out]; (try simp only [Act.put, pu1, pu2, pu3])))
   go_ret2
   exact ⟨by rw [Hqq.out, Hrr.out]; rfl, Up.refl _⟩
theorem div64_any (hi lo y : Nat) (hy : y < 18446744073709551616) (hlo : lo < 18446744073709551616) (hlt : hi < y) (w : World) :
   Calls Tryz.prog 99 #[.int .u64 hi, .int .u64 lo, .int .u64 y] w fun e w' => e = .returned (.tuple #[.int .u64 (((18446744073709551616 * hi + lo) / y : Nat) : Int), .int .u64 (((18446744073709551616 * hi + lo) % y : Nat) : Int)]) /\ Up w w' := by
 by_cases h : hi = 0
 ·subst h
  rw [Nat.mul_zero, Nat.zero_add]
  exact div64_small lo y hlo (by omega) w
 ·exact div64_great hi lo y hy hlo hlt (by omega) w
def ExRow (w : World) (b : Nat) (t : TypeId) (n : Nat) : Prop := ∃ f, Row w b t n f
theorem ExRow.up {w w' : World} {b n : Nat} {t : TypeId} (h : ExRow w b t n) (hu : Up w w') : ExRow w' b t n := let ⟨f, hf⟩ := h; ⟨f, hf.up hu⟩
theorem ExRow.st {w : World} {b c n : Nat} {t : TypeId} (h : ExRow w b t n) (v : Nat -> Nat) : ExRow (w.setRow c (cells n v)) b t n := by
 obtain ⟨f, hf⟩ := h
 by_cases e : b = c
 ·subst e; exact ⟨v, hf.setRow v⟩
 ·exact ⟨f, hf.row_other _ e⟩
theorem short_step {x S r y xk q r' b X : Nat} (h : x = S * y + r * (b * 18446744073709551616) + (X + xk * b)) (hq : y * q + r' = 18446744073709551616 * r + xk) : x = (S + q * b) * y + r' * b + X := by
 have h2 : (y * q + r') * b = (18446744073709551616 * r + xk) * b := by rw [hq]
 rw [h]
 grind
theorem short_q {r y xk : Nat} (hr : r < y) (hx : xk < 18446744073709551616) : (18446744073709551616 * r + xk) / y < 18446744073709551616 := by
 rw [Nat.div_lt_iff_lt_mul (by omega)]
 omega
theorem sum_one (r n : Nat) : sumL (upd (fun _ => 0) 0 r) (n + 1) = r := by
 induction n with
 | zero => rw [sumL_upd_succ, sumL_zero, bp_zero]; omega
 | succ n ih => rw [sumL_succ, ih, upd_other _ _ _ (by omega)]; omega
theorem wide_one {r : Nat} (hr : r < 18446744073709551616) : Value.agg (cells 16 (upd (fun _ => 0) 0 r)) = wideV r := by
 rw [wide_of (upd_lt (fun _ _ => by decide) hr), sum_one r 15]
set_option maxHeartbeats 2000000 in
theorem short_any (x y : Nat) (hx : x < bp 16) (hy : y < 18446744073709551616) (h0 : 0 < y) (w : World) :
   Calls Tryz.prog 97 #[wideV x, .int .u64 y] w fun e w' => e = .returned (.tuple #[wideV (x / y), wideV (x % y)]) /\ Up w w' := by
 have HL := hid (length_any x)
 have hn := lenL_le (limb x) 16
 have HX := hid (limb_len x hx)
 generalize lenL (limb x) 16 = n at *
 unfold wideV at *
 go_enter Tryz.func97, Tryz.ntmps97
 go_wp2_with (first | ((with_reducible apply ld_rowP undW infoW); exact rfl; exact rfl; exact gRow) | (go_at_call 93; refine (HL.out _).mono ?_; rintro e w' ⟨rfl, hu⟩; have rX : Row w' w.heap.size 78 16 (limb x) := gRow; have rA : Row w' (w.heap.size + 1) 78 16 (fun _ => 0) := gRow; have rB : Row w' (w.heap.size + 1 + 1) 78 16 (fun _ => 0) := gRow; have rQ : Row w' (w.heap.size + 1 + 1 + 1) 78 16 (fun _ => 0) := gRow; have rR : Row w' (w.heap.size + 1 + 1 + 1 + 1) 78 16 (fun _ => 0) := gRow; have rU : Below w.heap.size w w' := gUp; clear hu))
 go_loopw [8] (fun t wr => ∃ (m r : Nat) (f : Nat -> Nat), m <= 16 /\ t = .int .i64 ((m : Int) - 1) /\ r < y /\ (∀ j, j < 16 -> f j < 18446744073709551616) /\ (∀ j, j < m -> f j = 0) /\ x = sumL f 16 * y + r * bp m + sumL (limb x) m /\
    Row wr w.heap.size 78 16 (limb x) /\ Row wr (w.heap.size + 1) 78 16 (fun _ => 0) /\ Row wr (w.heap.size + 1 + 1) 78 16 (fun _ => 0) /\ Row wr (w.heap.size + 1 + 1 + 1) 78 16 f /\ Row wr (w.heap.size + 1 + 1 + 1 + 1) 78 16 (upd (fun _ => 0) 0 r) /\ Below w.heap.size w wr)
  (fun t _ => (intOf t + 1).toNat)
 case atStart => exact ⟨n, 0, fun _ => 0, hn, rfl, h0, fun j _ => by simp, fun j _ => rfl, by rw [sumL_zeros, HX.out]; omega, rX, rA, rB, rQ, rR.congr fun i _ => by unfold upd; split <;> rfl, rU⟩
 case round =>
  clear rX rA rB rQ rR rU
  obtain ⟨m, r, f, hm, rfl, hr, hf, hz, hsum, hX, hA, hB2, hQ, hR, hB⟩ := hrel
  have Hf := hid hf
  have Hz := hid hz
  have Hsum := hid hsum
  clear hf hz hsum
  by_cases hlt : 0 < m
  ·obtain ⟨k, rfl⟩ : ∃ k, m = k + 1 := ⟨m - 1, by omega⟩
   have e : (((k + 1 : Nat) : Int) - 1) = (k : Int) := by omega
   rw [e]
   clear e
   have hlx := limb_lt x k
   obtain ⟨q, eq⟩ : ∃ q, q = (18446744073709551616 * r + limb x k) / y := ⟨_, rfl⟩
   obtain ⟨r', er⟩ : ∃ r', r' = (18446744073709551616 * r + limb x k) % y := ⟨_, rfl⟩
   have hD := div64_any r (limb x k) y hy hlx hr
   rw [<- eq, <- er] at hD
   have HD := hid hD
   have hq : q < 18446744073709551616 := by rw [eq]; exact short_q hr hlx
   have hr' : r' < y := by rw [er]; exact Nat.mod_lt _ h0
   have HQR : Hid (y * q + r' = 18446744073709551616 * r + limb x k) := hid (by rw [eq, er]; exact Nat.div_add_mod _ _)
   clear eq er hD
   have hk1 : (k : Int) < 16 := by omega
   have hcx := hX.cell k (by omega)
   have hcr := hR.cell 0 (by omega)
   rw [upd_same] at hcr
   go_wp2
   refine opU (S := (fun wq => Row wq w.heap.size 78 16 (limb x) /\ Row wq (w.heap.size + 1) 78 16 (fun _ => 0) /\ Row wq (w.heap.size + 1 + 1) 78 16 (fun _ => 0) /\ Row wq (w.heap.size + 1 + 1 + 1) 78 16 f /\ Row wq (w.heap.size + 1 + 1 + 1 + 1) 78 16 (upd (fun _ => 0) 0 r) /\ wq.cell? ⟨w.heap.size, k, none⟩ = some (.int .u64 (limb x k : Nat)) /\ wq.cell? ⟨w.heap.size + 1 + 1 + 1 + 1, 0, none⟩ = some (.int .u64 (r : Nat)) /\ Below w.heap.size w wq)) (req := (fun j => j != 12 && j != 14)) (fun _ _ h hu => ⟨(h.1).up hu, (h.2.1).up hu, (h.2.2.1).up hu, (h.2.2.2.1).up hu, (h.2.2.2.2.1).up hu, hu.cell (h.2.2.2.2.2.1), hu.cell (h.2.2.2.2.2.2.1), below_up (h.2.2.2.2.2.2.2) hu⟩) ⟨gRow, gRow, gRow, gRow, gRow, (by first | assumption | (apply Blk.cell; exact gBlk; exact rfl)), (by first | assumption | (apply Blk.cell; exact gBlk; exact rfl)), gUp⟩ (fun wS hSS hSu => ?_)
   have ⟨hS1, hS2, hS3, hS4, hS5, hS6, hS7, hSB⟩ := hSS
   clear hcx hcr hX hA hB2 hQ hR hB
   refine tkP 0 (some 17) hSu ?_
   refine tkP 1 (some 18) hSu ?_
   refine tkT 2 (some 19) rfl hSu hSS ?_ (hy := fun w' hSw => by ((try dsimp only at hSw); (try obtain ⟨_, _, _, _, _, _, _, _⟩ := hSw); go_simp; (try exact rfl)))
   refine tkP 3 (some 20) hSu ?_
   refine tkP 4 (some 21) hSu ?_
   refine tkT 5 (some 22) rfl hSu hSS ?_ (hy := fun w' hSw => by ((try dsimp only at hSw); (try obtain ⟨_, _, _, _, _, _, _, _⟩ := hSw); go_simp; (try exact rfl)))
   refine tkP 6 (some 23) hSu ?_
   refine tkC 7 (some 24) rfl hSu hSS ?_ (hy := fun w' hSw => (HD.out _))
   refine tkP 8 (some 16) hSu ?_
   refine tkP 9 (some 25) hSu ?_
   refine tkP 10 (some 26) hSu ?_
   refine tkP 11 (some 27) hSu ?_
   refine wpAnyU_one (i := 12) rfl (by kernel_rfl) (by rfl) fun w1 hw1 => ?_
   have hcW := (hS4.up hw1).cell k (by omega)
   have hfW := (hS4.up hw1).frozen k
   go_simp
   clear hcW hfW
   have gX := (hS1.up hw1).other ⟨w.heap.size + 1 + 1 + 1, k, none⟩ (.int .u64 (q : Nat)) (by simp <;> omega)
   have gA := (hS2.up hw1).other ⟨w.heap.size + 1 + 1 + 1, k, none⟩ (.int .u64 (q : Nat)) (by simp <;> omega)
   have gB2 := (hS3.up hw1).other ⟨w.heap.size + 1 + 1 + 1, k, none⟩ (.int .u64 (q : Nat)) (by simp)
   have gQ := (hS4.up hw1).set k q
   have gR := (hS5.up hw1).other ⟨w.heap.size + 1 + 1 + 1, k, none⟩ (.int .u64 (q : Nat)) (by simp)
   have gB := (below_up hSB hw1).setCell (p := ⟨w.heap.size + 1 + 1 + 1, k, none⟩) (by simp <;> omega) (.int .u64 (q : Nat))
   clear hS1 hS2 hS3 hS4 hS5 hS6 hS7 hSB hw1
   refine tkP 13 (some 28) hSu ?_
   refine wpAnyU_one (i := 14) rfl (by kernel_rfl) (by rfl) fun w2 hw2 => ?_
   have hcW := (gR.up hw2).cell 0 (by omega)
   have hfW := (gR.up hw2).frozen 0
   go_simp
   clear hcW hfW hSS
   refine wpAnyU_done (by kernel_rfl) (fun wF huE => ?_) _
   have fX := ((gX.up hw2).other ⟨w.heap.size + 1 + 1 + 1 + 1, 0, none⟩ (.int .u64 (r' : Nat)) (by simp <;> omega)).up huE
   have fA := ((gA.up hw2).other ⟨w.heap.size + 1 + 1 + 1 + 1, 0, none⟩ (.int .u64 (r' : Nat)) (by simp <;> omega)).up huE
   have fB2 := ((gB2.up hw2).other ⟨w.heap.size + 1 + 1 + 1 + 1, 0, none⟩ (.int .u64 (r' : Nat)) (by simp <;> omega)).up huE
   have fQ := ((gQ.up hw2).other ⟨w.heap.size + 1 + 1 + 1 + 1, 0, none⟩ (.int .u64 (r' : Nat)) (by simp)).up huE
   have fR : Row wF (w.heap.size + 1 + 1 + 1 + 1) 78 16 (upd (fun _ => 0) 0 r') := (((gR.up hw2).set 0 r').up huE).congr fun i _ => by unfold upd; split <;> rfl
   have fB := below_up ((below_up gB hw2).setCell (p := ⟨w.heap.size + 1 + 1 + 1 + 1, 0, none⟩) (by simp <;> omega) (.int .u64 (r' : Nat))) huE
   clear gX gA gB2 gQ gR gB hw2 huE
   go_wp2
   go_roundw
   case rel =>
    refine ⟨k, r', upd f k q, by omega, by go_num, hr', upd_lt Hf.out hq, fun j hj => by rw [upd_other _ _ _ (by omega)]; exact Hz.out j (by omega), ?_, fX, fA, fB2, fQ, fR, fB⟩
    have h1 := sumL_upd f q (show k < 16 by omega)
    rw [Hz.out k (by omega), Nat.zero_mul, Nat.add_zero] at h1
    have h2 := Hsum.out
    rw [bp_succ, sumL_succ (limb x) k] at h2
    rw [h1]
    exact short_step h2 HQR.out
   case measure => simp [intOf] <;> omega
  ·obtain rfl : m = 0 := by omega
   have hfin := Hsum.out
   rw [bp_zero, sumL_zero, Nat.mul_one, Nat.add_zero] at hfin
   have e1 : x / y = sumL f 16 := by rw [hfin, Nat.mul_comm, Nat.mul_add_div h0, Nat.div_eq_of_lt hr, Nat.add_zero]
   have e2 : x % y = r := by rw [hfin, Nat.mul_comm, Nat.mul_add_mod, Nat.mod_eq_of_lt hr]
   have HE1 := hid e1
   have HE2 := hid e2
   clear hfin e1 e2
   go_wp2
   refine opU (S := (fun wq => Row wq (w.heap.size + 1 + 1 + 1) 78 16 f /\ Row wq (w.heap.size + 1 + 1 + 1 + 1) 78 16 (upd (fun _ => 0) 0 r) /\ ExRow wq (w.heap.size + 1) 78 16 /\ ExRow wq (w.heap.size + 1 + 1) 78 16 /\ Below w.heap.size w wq)) (req := (fun j => j != 3)) (fun _ _ h hu => ⟨(h.1).up hu, (h.2.1).up hu, (h.2.2.1).up hu, (h.2.2.2.1).up hu, below_up (h.2.2.2.2) hu⟩) ⟨gRow, gRow, ⟨_, gRow⟩, ⟨_, gRow⟩, gUp⟩ (fun wS hSS hSu => ?_)
   have ⟨hS1, hS2, hS3, hS4, hSB⟩ := hSS
   clear hX hA hB2 hQ hR hB
   refine tkT 0 (some 29) rfl hSu hSS ?_ (hy := fun w' hSw => run_ld undW infoW _ rfl _ rfl hSw.1)
   refine tkT 1 (some 30) rfl hSu hSS ?_ (hy := fun w' hSw => run_ld undW infoW _ rfl _ rfl hSw.2.1)
   obtain ⟨v3, hS3⟩ := hS3
   obtain ⟨v4, hS4⟩ := hS4
   refine wpAnyU_one (i := 2) rfl (by kernel_rfl) (by rfl) fun w2 hw2 => ?_
   refine wp_st_rowN infoW rfl _ _ rfl _ rfl rfl (hS3.up hw2) ?_
   refine ⟨fun _ h => ⟨h.1.row_other _ (by omega), h.2.1.row_other _ (by omega), h.2.2.1.st f, h.2.2.2.1.st f, below_setRow h.2.2.2.2 (by omega) _⟩, ?_⟩
   refine wpAnyU_one (i := 3) rfl (by kernel_rfl) (by rfl) fun w3 hw3 => ?_
   refine wp_st_rowN infoW rfl _ _ rfl _ rfl rfl ((Row.up (((hS4.up hw2).row_other (cells 16 f) (show w.heap.size + 1 + 1 ≠ w.heap.size + 1 by omega))) hw3)) ?_
   refine ⟨fun h => by simp at h, ?_⟩
   try simp only [Act.put, pu1, pu2, pu3]
   refine wpAnyU_done (by kernel_rfl) (fun wF huE => ?_) _
   have gA := ((((hS3.up hw2).setRow f).up hw3).row_other (cells 16 (upd (fun _ => 0) 0 r)) (show w.heap.size + 1 ≠ w.heap.size + 1 + 1 by omega)).up huE
   have gC := (((hS4.up hw2).row_other (cells 16 f) (show w.heap.size + 1 + 1 ≠ w.heap.size + 1 by omega)).up hw3).setRow (upd (fun _ => 0) 0 r)
   replace gC := gC.up huE
   have gB := below_up (below_setRow (below_up (below_setRow (below_up hSB hw2) (show w.heap.size <= w.heap.size + 1 by omega) (cells 16 f)) hw3) (show w.heap.size <= w.heap.size + 1 + 1 by omega) (cells 16 (upd (fun _ => 0) 0 r))) huE
   clear hS1 hS2 hS3 hS4 hSB hSS hw2 hw3 huE
   go_wp2
   exact bodyPost_ret (resCC rfl undW infoW _ _ _ rfl rfl gA gC) rfl ⟨by
    rw [HE1.out, HE2.out, wide_of Hf.out, wide_one (by omega)]; rfl, gB⟩
theorem wp_st_rowZ {P : Program} {t : TypeId} {o : Oper} {a : Act} {w : World} {K : Act -> World -> Prop} {Q : Exit -> Act -> World -> Prop} (hi : (P.info? t).map (·.size) = some 16) (hd : o.dst = none) (x y : Operand) (ho : o.op = .store t x y) (g : Nat)
   (hx : a.eval x = .pointer (some ⟨g, 0, none⟩)) {f : Nat -> Nat} (hy : a.eval y = .agg #[.int .u64 0, .int .u64 0, .int .u64 0, .int .u64 0, .int .u64 0, .int .u64 0, .int .u64 0, .int .u64 0, .int .u64 0, .int .u64 0, .int .u64 0, .int .u64 0, .int .u64 0, .int .u64 0, .int .u64 0, .int .u64 0])
   (hC : Row w g t 16 f) (h : K a (w.setRow g (cells 16 (fun _ => 0)))) : o.wp P a w K Q :=
 wp_st_rowN hi hd x y ho g hx (by rw [hy, zeros16]) hC h
def divV (x y : Nat) : Value := .tuple #[wideV (x / y), wideV (x % y)]
theorem ordZ_lt {x y : Nat} (h : x < y) : ordZ x y = -1 := by simp [ordZ, h]
theorem ordZ_ge {x y : Nat} (h : ¬ x < y) : 0 <= ordZ x y := by
 unfold ordZ
 rw [if_neg h]
 split <;> omega
set_option maxHeartbeats 1000000 in
theorem divide_less (x y : Nat) (hx : x < bp 16) (hy : y < bp 16) (h : x < y) (w : World) :
   Calls Tryz.prog 91 #[wideV x, wideV y] w fun e w' => e = .returned (divV x y) /\ Up w w' := by
 have hO := fun w => order_any x y hx hy w
 rw [ordZ_lt h] at hO
 have HO := hid hO
 unfold divV
 rw [Nat.div_eq_of_lt h, Nat.mod_eq_of_lt h, zeroW]
 clear hO
 unfold wideV at *
 go_enter Tryz.func91, Tryz.ntmps91
 go_wp2_with (first | ((with_reducible apply ld_rowP undW infoW); exact rfl; exact rfl; exact gRow) | (go_at_call 96; refine (HO.out _).mono ?_; rintro e w' ⟨rfl, hu⟩))
 refine opU (S := (fun wq => Row wq w.heap.size 78 16 (limb x) /\ ExRow wq (w.heap.size + 1 + 1) 78 16 /\ ExRow wq (w.heap.size + 1 + 1 + 1) 78 16 /\ Below w.heap.size w wq)) (req := (fun j => j != 3)) (fun _ _ h hu => ⟨(h.1).up hu, (h.2.1).up hu, (h.2.2.1).up hu, below_up (h.2.2.2) hu⟩) ⟨gRow, ⟨_, gRow⟩, ⟨_, gRow⟩, gUp⟩ (fun wS hSS hSu => ?_)
 have ⟨hS1, hS2, hS3, hSB⟩ := hSS
 clear hu
 refine tkP 0 (some 10) hSu ?_
 refine tkT 1 (some 11) rfl hSu hSS ?_ (hy := fun w' hSw => run_ld undW infoW _ rfl _ rfl hSw.1)
 obtain ⟨v3, hS2⟩ := hS2
 obtain ⟨v4, hS3⟩ := hS3
 refine wpAnyU_one (i := 2) rfl (by kernel_rfl) (by rfl) fun w2 hw2 => ?_
 refine wp_st_rowZ infoW rfl _ _ rfl _ rfl rfl (hS2.up hw2) ?_
 refine ⟨fun _ h => ⟨h.1.row_other _ (by omega), h.2.1.st _, h.2.2.1.st _, below_setRow h.2.2.2 (by omega) _⟩, ?_⟩
 refine wpAnyU_one (i := 3) rfl (by kernel_rfl) (by rfl) fun w3 hw3 => ?_
 refine wp_st_rowN infoW rfl _ _ rfl _ rfl rfl ((Row.up (((hS3.up hw2).row_other (cells 16 (fun _ => 0)) (show w.heap.size + 1 + 1 + 1 ≠ w.heap.size + 1 + 1 by omega))) hw3)) ?_
 refine ⟨fun h => by simp at h, ?_⟩
 try simp only [Act.put, pu1, pu2, pu3]
 refine wpAnyU_done (by kernel_rfl) (fun wF huE => ?_) _
 have gA := ((((hS2.up hw2).setRow (fun _ => 0)).up hw3).row_other (cells 16 (limb x)) (show w.heap.size + 1 + 1 ≠ w.heap.size + 1 + 1 + 1 by omega)).up huE
 have gC := (((hS3.up hw2).row_other (cells 16 (fun _ => 0)) (show w.heap.size + 1 + 1 + 1 ≠ w.heap.size + 1 + 1 by omega)).up hw3).setRow (limb x)
 replace gC := gC.up huE
 have gB := below_up (below_setRow (below_up (below_setRow (below_up hSB hw2) (show w.heap.size <= w.heap.size + 1 + 1 by omega) (cells 16 (fun _ => 0))) hw3) (show w.heap.size <= w.heap.size + 1 + 1 + 1 by omega) (cells 16 (limb x))) huE
 clear hS1 hS2 hS3 hSB hSS hw2 hw3 huE
 go_wp2
 exact bodyPost_ret (resCC rfl undW infoW _ _ _ rfl rfl gA gC) rfl ⟨rfl, gB⟩
set_option maxHeartbeats 1000000 in
theorem divide_one (x y : Nat) (hx : x < bp 16) (hy : y < bp 16) (h : ¬ x < y) (h1 : lenL (limb y) 16 = 1) (w : World) :
   Calls Tryz.prog 91 #[wideV x, wideV y] w fun e w' => e = .returned (divV x y) /\ Up w w' := by
 have hO := fun w => order_any x y hx hy w
 have ho := ordZ_ge h
 have hL := fun w => length_any y w
 rw [h1] at hL
 have hy1 : limb y 0 = y := by
  have e := limb_len y hy
  rw [h1, sumL_succ, sumL_zero, bp_zero] at e
  omega
 have hyl := limb_lt y 0
 rw [hy1] at hyl
 have hy0 : 0 < y := by
  have := lenL_top (limb y) 16 (by omega)
  rw [h1] at this
  have e : limb y (1 - 1) = limb y 0 := rfl
  rw [e, hy1] at this
  omega
 have HS := hid (fun w => short_any x y hx hyl hy0 w)
 have HO := hid hO
 have HL := hid hL
 have Hy1 := hid hy1
 unfold divV
 clear hO hL hy1 h h1
 generalize ordZ x y = oz at *
 have hoz : ¬ oz < 0 := by omega
 obtain ⟨q, eq⟩ : ∃ q, x / y = q := ⟨_, rfl⟩
 obtain ⟨r, er⟩ : ∃ r, x % y = r := ⟨_, rfl⟩
 rw [eq, er] at HS ⊢
 clear eq er
 unfold wideV at *
 go_enter Tryz.func91, Tryz.ntmps91
 go_wp2_with (first | ((with_reducible apply ld_rowP undW infoW); exact rfl; exact rfl; exact gRow) | ((with_reducible apply st_rowP infoW); exact rfl; exact rfl; exact gRow) | ((with_reducible apply st_rowZ infoW); exact rfl; exact rfl; exact gRow) | (go_at_call 96; refine (HO.out _).mono ?_; rintro e w' ⟨rfl, hu⟩) | (go_at_call 93; refine (HL.out _).mono ?_; rintro e w' ⟨rfl, hu⟩; have hcl := Row.cell (w := w') (b := w.heap.size + 1) (t := 78) (n := 16) (f := limb y) gRow 0 (by omega); rw [Hy1.out] at hcl) | (go_at_call 97; refine (HS.out _).mono ?_; rintro e w' ⟨rfl, hu⟩))
 exact bodyPost_ret (resCC rfl undW infoW _ _ _ rfl rfl gRow gRow) rfl ⟨rfl, gUp⟩
theorem wpAnyU_alloc2 {ops : Array Oper} {Q : Exit -> Act -> World -> Prop} {md : Region.Mode} {S : World -> Prop} {req : Nat -> Bool} {i j : Nat} {oi oj : Oper} {di dj : Tmp} {fuel : Nat} {listed : Array Bool} {a : Act} {w : World}
   (hi : ops[i]? = some oi) (hj : ops[j]? = some oj) (hdi : oi.dst = some di) (hdj : oj.dst = some dj) (hd : di ≠ dj) (hgi : oi.guard = none) (hgj : oj.guard = none) (hoi : oi.op = .alloc 78) (hoj : oj.op = .alloc 78)
   (hr : Region.ready md ops listed = [i, j]) (hr1 : Region.ready md ops (listed.setIfInBounds i true) = [j]) (hr2 : Region.ready md ops (listed.setIfInBounds j true) = [i]) (hij : i ≠ j) (hSup : ∀ w w', S w -> Up w w' -> S w')
   (h : ∀ w1 p q, Up w w1 -> Row w1 p 78 16 (fun _ => 0) -> Row w1 q 78 16 (fun _ => 0) -> p ≠ q -> w.heap.size <= p -> w.heap.size <= q ->
    wpAnyU Tryz.prog md ops Q S req fuel ((listed.setIfInBounds i true).setIfInBounds j true) ((a.put (some di) (.pointer (some ⟨p, 0, none⟩))).put (some dj) (.pointer (some ⟨q, 0, none⟩))) w1) :
   wpAnyU Tryz.prog md ops Q S req (fuel + 2) listed a w := by
 have hwi : ∀ a : Act, Region.wanted oi (yielded ops a.tmps) = true := fun a => by simp [Region.wanted, hgi]
 have hwj : ∀ a : Act, Region.wanted oj (yielded ops a.tmps) = true := fun a => by simp [Region.wanted, hgj]
 refine wpAnyU_all hr (by simp) fun w1 hw1 k hk => ?_
 simp only [List.mem_cons, List.not_mem_nil, or_false] at hk
 rcases hk with rfl | rfl
 ·unfold wpOp
  simp only [hi, hwi, if_true]
  refine .inl ?_
  unfold Oper.wp
  rw [run_allocW hoi w1]
  refine ⟨fun _ hS => hSup _ _ hS (Up.alloc _ _), ?_⟩
  refine wpAnyU_allocW hj hdj hr1 (hwj _) hoj hSup fun w2 hw2 => ?_
  rw [hdi]
  have h1 := hw1.size
  have h2 := hw2.size
  simp only [World.alloc, Array.size_push] at h2
  exact h _ _ _ ((hw1.trans ((Up.alloc _ _).trans hw2)).trans (Up.alloc _ _)) ((Row.up (row_newc _ 16 _ rfl) hw2).up (Up.alloc _ _)) (row_newc _ 16 _ rfl) (by omega) (by omega) (by omega)
 ·unfold wpOp
  simp only [hj, hwj, if_true]
  refine .inl ?_
  unfold Oper.wp
  rw [run_allocW hoj w1]
  refine ⟨fun _ hS => hSup _ _ hS (Up.alloc _ _), ?_⟩
  refine wpAnyU_allocW hi hdi hr2 (hwi _) hoi hSup fun w2 hw2 => ?_
  rw [hdj, Act.put_comm a (x := some dj) (y := some di) _ _ (fun d h1 h2 => hd (by rw [Option.some.inj h1, Option.some.inj h2])), Array.setIfInBounds_comm _ _ (Ne.symm hij)]
  have h1 := hw1.size
  have h2 := hw2.size
  simp only [World.alloc, Array.size_push] at h2
  exact h _ _ _ ((hw1.trans ((Up.alloc _ _).trans hw2)).trans (Up.alloc _ _)) (row_newc _ 16 _ rfl) ((Row.up (row_newc _ 16 _ rfl) hw2).up (Up.alloc _ _)) (by omega) (by omega) (by omega)
theorem pm_tdiv (a b : Int) {sa sb : Bool} (ha : sa = decide (a < 0)) (hb' : sb = decide (b < 0)) : pm (!(sa == sb)) (a.natAbs / b.natAbs) = a.tdiv b := by
 subst ha; subst hb'
 by_cases h1 : a < 0
 ·obtain ⟨n, e⟩ : ∃ n : Nat, a = -(n : Int) := ⟨a.natAbs, by omega⟩
  by_cases h2 : b < 0
  ·obtain ⟨m, f⟩ : ∃ m : Nat, b = -(m : Int) := ⟨b.natAbs, by omega⟩
   rw [decide_eq_true h1, decide_eq_true h2, e, f, Int.natAbs_neg, Int.natAbs_neg, Int.neg_tdiv, Int.tdiv_neg, Int.neg_neg, <- Int.ofNat_tdiv]
   rfl
  ·obtain ⟨m, f⟩ : ∃ m : Nat, b = (m : Int) := ⟨b.natAbs, by omega⟩
   rw [decide_eq_true h1, decide_eq_false h2, e, f, Int.natAbs_neg, Int.neg_tdiv, <- Int.ofNat_tdiv]
   rfl
 ·obtain ⟨n, e⟩ : ∃ n : Nat, a = (n : Int) := ⟨a.natAbs, by omega⟩
  by_cases h2 : b < 0
  ·obtain ⟨m, f⟩ : ∃ m : Nat, b = -(m : Int) := ⟨b.natAbs, by omega⟩
   rw [decide_eq_false h1, decide_eq_true h2, e, f, Int.natAbs_neg, Int.tdiv_neg, <- Int.ofNat_tdiv]
   rfl
  ·obtain ⟨m, f⟩ : ∃ m : Nat, b = (m : Int) := ⟨b.natAbs, by omega⟩
   rw [decide_eq_false h1, decide_eq_false h2, e, f, <- Int.ofNat_tdiv]
   rfl
theorem pm_tmod (a b : Int) {sa : Bool} (ha : sa = decide (a < 0)) : pm sa (a.natAbs % b.natAbs) = a.tmod b := by
 subst ha
 have hb' : a.tmod b = a.tmod (b.natAbs : Int) := by
  by_cases h2 : b < 0
  ·obtain ⟨m, f⟩ : ∃ m : Nat, b = -(m : Int) := ⟨b.natAbs, by omega⟩
   rw [f, Int.tmod_neg, Int.natAbs_neg]; rfl
  ·obtain ⟨m, f⟩ : ∃ m : Nat, b = (m : Int) := ⟨b.natAbs, by omega⟩
   rw [f]; rfl
 rw [hb']
 by_cases h1 : a < 0
 ·obtain ⟨n, e⟩ : ∃ n : Nat, a = -(n : Int) := ⟨a.natAbs, by omega⟩
  rw [decide_eq_true h1, e, Int.natAbs_neg, Int.neg_tmod, <- Int.ofNat_tmod]
  rfl
 ·obtain ⟨n, e⟩ : ∃ n : Nat, a = (n : Int) := ⟨a.natAbs, by omega⟩
  rw [decide_eq_false h1, e, <- Int.ofNat_tmod]
  rfl
def divZV (a b : Int) : Value :=
 if b = 0 \/ ¬ InR (a.tdiv b) then .tuple #[.agg (cells 16 (fun _ => 0)), .agg (cells 16 (fun _ => 0)), .bool false]
 else .tuple #[wideV (enc (a.tdiv b)), wideV (enc (a.tmod b)), .bool true]
theorem tmod_in {a b : Int} (ha : InR a) : InR (a.tmod b) := by
 have h := pm_tmod a b (sa := decide (a < 0)) rfl
 have h1 := Nat.mod_le a.natAbs b.natAbs
 have h2 := ha.out
 rw [<- h]
 generalize a.natAbs % b.natAbs = r at *
 refine InR.mk' ?_
 unfold pm
 split
 ·rename_i hs
  have hs : a < 0 := by simpa using hs
  omega
 ·rename_i hs
  have hs : ¬ a < 0 := by simpa using hs
  omega
set_option maxHeartbeats 2000000 in
theorem div_z {a b : Int} (ha : InR a) (hb' : InR b) (hDV : b ≠ 0 -> ∀ w, Calls Tryz.prog 91 #[wideV a.natAbs, wideV b.natAbs] w fun e w' => e = .returned (divV a.natAbs b.natAbs) /\ Up w w') (w : World) :
   Calls Tryz.prog 83 #[wideV (enc a), wideV (enc b)] w fun e w' => e = .returned (divZV a b) /\ Up w w' := by
 have hltb := enc_lt b
 by_cases h0 : b = 0
 ·have e : divZV a b = .tuple #[.agg (cells 16 (fun _ => 0)), .agg (cells 16 (fun _ => 0)), .bool false] := by unfold divZV; rw [if_pos (.inl h0)]
  have hz : IsB (decide (enc b = 0)) true := decide_eq_true ((enc_eq_zero hb').2 h0)
  rw [e]
  clear e h0 hDV
  unfold wideV at *
  go_enter Tryz.func83, Tryz.ntmps83
  go_wp2_with (first | ((with_reducible apply ld_rowP undW infoW); exact rfl; exact rfl; exact gRow) | ((with_reducible apply st_rowP infoW); exact rfl; exact rfl; exact gRow) | ((with_reducible apply st_rowZ infoW); exact rfl; exact rfl; exact gRow) | ((with_reducible apply eqP); exact rfl; exact rfl; exact rfl; assumption; assumption; assumption) | ((with_reducible apply eqZP); exact rfl; exact rfl; exact rfl; assumption; assumption) | ((with_reducible apply neP); exact rfl; exact rfl; exact rfl; assumption; assumption; assumption) | ((with_reducible apply neZP); exact rfl; exact rfl; exact rfl; assumption; assumption))
  exact bodyPost_ret (resCCT rfl undW infoW _ _ _ rfl rfl gRow gRow) rfl ⟨rfl, gUp⟩
 ·have hz : IsB (decide (enc b = 0)) false := decide_eq_false fun h => h0 ((enc_eq_zero hb').1 h)
  have hD := hDV h0
  clear hDV
  have HA := hid (fun w => amount_z ha w)
  have HB := hid (fun w => amount_z hb' w)
  have hMA := fun w => minus_z ha w
  have hMB := fun w => minus_z hb' w
  obtain ⟨sa, ea⟩ : ∃ sa, sa = decide (a < 0) := ⟨_, rfl⟩
  obtain ⟨sb, eb⟩ : ∃ sb, sb = decide (b < 0) := ⟨_, rfl⟩
  rw [<- ea] at hMA
  rw [<- eb] at hMB
  have HMA := hid hMA
  have HMB := hid hMB
  have hqlt : a.natAbs / b.natAbs < bp 16 := Nat.lt_of_le_of_lt (Nat.div_le_self _ _) (enc_natAbs ha).2
  have hrlt : a.natAbs % b.natAbs < bp 16 := Nat.lt_of_le_of_lt (Nat.mod_le _ _) (enc_natAbs ha).2
  have hSQ := fun w => signed_any hqlt (!(sa == sb)) w
  have hSR := fun w => signed_any hrlt sa w
  rw [pm_tdiv a b ea eb] at hSQ
  rw [pm_tmod a b ea, opt_yes (tmod_in ha)] at hSR
  have HSR := hid hSR
  unfold divV at hD
  have HD := hid hD
  clear hMA hMB ea eb hSR hD
  generalize a.natAbs / b.natAbs = q at *
  generalize a.natAbs % b.natAbs = r at *
  generalize a.natAbs = m at *
  generalize b.natAbs = n at *
  obtain ⟨er, eer⟩ : ∃ er, enc (a.tmod b) = er := ⟨_, rfl⟩
  rw [eer] at HSR
  have hER := hid eer
  clear eer
  by_cases hin : InR (a.tdiv b)
  ·rw [opt_yes hin] at hSQ
   have HSQ := hid hSQ
   have e : divZV a b = .tuple #[wideV (enc (a.tdiv b)), wideV er, .bool true] := by
    unfold divZV
    rw [if_neg (fun h => h.elim h0 (fun h => h hin)), hER.out]
   rw [e]
   clear e hSQ hin h0
   generalize enc (a.tdiv b) = eq at *
   unfold wideV at *
   go_enter Tryz.func83, Tryz.ntmps83
   go_wp2_with (first | ((with_reducible apply ld_rowP undW infoW); exact rfl; exact rfl; exact gRow) | ((with_reducible apply st_rowP infoW); exact rfl; exact rfl; exact gRow) | ((with_reducible apply st_rowZ infoW); exact rfl; exact rfl; exact gRow) | ((with_reducible apply eqP); exact rfl; exact rfl; exact rfl; assumption; assumption; assumption) | ((with_reducible apply eqZP); exact rfl; exact rfl; exact rfl; assumption; assumption) | ((with_reducible apply neP); exact rfl; exact rfl; exact rfl; assumption; assumption; assumption) | ((with_reducible apply neZP); exact rfl; exact rfl; exact rfl; assumption; assumption))
   refine opU (S := (fun wq => Row wq (w.heap.size) 78 16 (limb (enc a)) /\ Row wq (w.heap.size + 1) 78 16 (limb (enc b)) /\ Row wq (w.heap.size + 1 + 1) 78 16 (fun _ => 0) /\ Row wq (w.heap.size + 1 + 1 + 1) 78 16 (fun _ => 0) /\ Below w.heap.size w wq)) (req := (fun j => j != 10 && j != 11)) (fun _ _ h hu => ⟨(h.1).up hu, (h.2.1).up hu, (h.2.2.1).up hu, (h.2.2.2.1).up hu, below_up (h.2.2.2.2) hu⟩) ⟨gRow, gRow, gRow, gRow, gUp⟩ (fun wS hSS hSu => ?_)
   have ⟨hS1, hS2, hS3, hS4, hSB⟩ := hSS
   refine tkT 0 (some 19) rfl hSu hSS ?_ (hy := fun w' hSw => run_ld undW infoW _ rfl _ rfl hSw.1)
   refine tkC 1 (some 20) rfl hSu hSS ?_ (hy := fun w' hSw => (HA.out _))
   refine tkT 2 (some 21) rfl hSu hSS ?_ (hy := fun w' hSw => run_ld undW infoW _ rfl _ rfl hSw.2.1)
   refine tkC 3 (some 22) rfl hSu hSS ?_ (hy := fun w' hSw => (HB.out _))
   refine tkC 4 (some 23) rfl hSu hSS ?_ (hy := fun w' hSw => (HD.out _))
   refine tkP 5 (some 18) hSu ?_
   refine tkP 6 (some 24) hSu ?_
   refine tkP 7 (some 25) hSu ?_
   refine wpAnyU_alloc2 (i := 8) (j := 9) (di := 7) (dj := 8) rfl rfl rfl rfl (by decide) rfl rfl rfl rfl (by kernel_rfl) (by kernel_rfl) (by kernel_rfl) (by decide) (fun _ _ h hu => ⟨(h.1).up hu, (h.2.1).up hu, (h.2.2.1).up hu, (h.2.2.2.1).up hu, below_up (h.2.2.2.2) hu⟩) fun w1 p q' hw1 hp hq hpq hpl hql => ?_
   try simp only [Act.put, pu1, pu2, pu3]
   have hlt := hS4.lt
   refine wpAnyU_one (i := 10) rfl (by kernel_rfl) (by rfl) fun w2 hw2 => ?_
   refine wp_st_rowN infoW rfl _ _ rfl _ rfl rfl ((hp.up hw2)) ?_
   refine ⟨fun h => by simp at h, ?_⟩
   try simp only [Act.put, pu1, pu2, pu3]
   refine wpAnyU_one (i := 11) rfl (by kernel_rfl) (by rfl) fun w3 hw3 => ?_
   refine wp_st_rowN infoW rfl _ _ rfl _ rfl rfl ((((hq.up hw2).row_other (cells 16 (limb q)) (show q' ≠ p by omega)).up hw3)) ?_
   refine ⟨fun h => by simp at h, ?_⟩
   try simp only [Act.put, pu1, pu2, pu3]
   refine wpAnyU_done (by kernel_rfl) (fun wF huE => ?_) _
   have g1 := ((((((hS1).up hw1).up hw2).row_other (cells 16 (limb q)) (show w.heap.size ≠ p by omega)).up hw3).row_other (cells 16 (limb r)) (show w.heap.size ≠ q' by omega)).up huE
   have g2 := ((((((hS2).up hw1).up hw2).row_other (cells 16 (limb q)) (show w.heap.size + 1 ≠ p by omega)).up hw3).row_other (cells 16 (limb r)) (show w.heap.size + 1 ≠ q' by omega)).up huE
   have g3 := ((((((hS3).up hw1).up hw2).row_other (cells 16 (limb q)) (show w.heap.size + 1 + 1 ≠ p by omega)).up hw3).row_other (cells 16 (limb r)) (show w.heap.size + 1 + 1 ≠ q' by omega)).up huE
   have g4 := ((((((hS4).up hw1).up hw2).row_other (cells 16 (limb q)) (show w.heap.size + 1 + 1 + 1 ≠ p by omega)).up hw3).row_other (cells 16 (limb r)) (show w.heap.size + 1 + 1 + 1 ≠ q' by omega)).up huE
   have gp := (((((hp).up hw2).setRow (limb q)).up hw3).row_other (cells 16 (limb r)) (show p ≠ q' by omega)).up huE
   have gq := (((((hq).up hw2).row_other (cells 16 (limb q)) (show q' ≠ p by omega)).up hw3).setRow (limb r)).up huE
   have gB := below_up (below_setRow (below_up (below_setRow (below_up (below_up (hSB) hw1) hw2) (show w.heap.size <= p by omega) (cells 16 (limb q))) hw3) (show w.heap.size <= q' by omega) (cells 16 (limb r))) huE
   clear hS1 hS2 hS3 hS4 hSB hSS hw1 hw2 hw3 huE hp hq
   go_wp2
   refine opU (S := (fun wq => Row wq (w.heap.size) 78 16 (limb (enc a)) /\ Row wq (w.heap.size + 1) 78 16 (limb (enc b)) /\ Row wq (w.heap.size + 1 + 1) 78 16 (fun _ => 0) /\ Row wq (w.heap.size + 1 + 1 + 1) 78 16 (fun _ => 0) /\ Row wq p 78 16 (limb q) /\ Row wq q' 78 16 (limb r) /\ Below w.heap.size w wq)) (req := (fun j => j != 11)) (fun _ _ h hu => ⟨(h.1).up hu, (h.2.1).up hu, (h.2.2.1).up hu, (h.2.2.2.1).up hu, (h.2.2.2.2.1).up hu, (h.2.2.2.2.2.1).up hu, below_up (h.2.2.2.2.2.2) hu⟩) ⟨gRow, gRow, gRow, gRow, gRow, gRow, gUp⟩ (fun wS hSS hSu => ?_)
   have ⟨hS1, hS2, hS3, hS4, hS5, hS6, hSB⟩ := hSS
   clear g1 g2 g3 g4 gp gq gB
   refine tkT 0 (some 27) rfl hSu hSS ?_ (hy := fun w' hSw => run_ld undW infoW _ rfl _ rfl hSw.2.2.2.2.1)
   refine tkT 1 (some 28) rfl hSu hSS ?_ (hy := fun w' hSw => run_ld undW infoW _ rfl _ rfl hSw.1)
   refine tkC 2 (some 29) rfl hSu hSS ?_ (hy := fun w' hSw => (HMA.out _))
   refine tkT 3 (some 30) rfl hSu hSS ?_ (hy := fun w' hSw => run_ld undW infoW _ rfl _ rfl hSw.2.1)
   refine tkC 4 (some 31) rfl hSu hSS ?_ (hy := fun w' hSw => (HMB.out _))
   refine tkP 5 (some 32) hSu ?_
   refine tkC 6 (some 33) rfl hSu hSS ?_ (hy := fun w' hSw => (HSQ.out _))
   refine tkP 7 (some 26) hSu ?_
   refine tkP 8 (some 34) hSu ?_
   refine tkP 9 (some 35) hSu ?_
   have l4 := hS4.lt
   have l5 := hS5.lt
   have l6 := hS6.lt
   refine wpAnyU_allocW (i := 10) (d := (some 9)) rfl rfl (by kernel_rfl) (by rfl) rfl hSu.out fun w4 hw4 => ?_
   try simp only [Act.put, pu1, pu2, pu3]
   refine wpAnyU_one (i := 11) rfl (by kernel_rfl) (by rfl) fun w5 hw5 => ?_
   refine wp_st_rowN infoW rfl _ _ rfl _ rfl rfl ((Row.up (row_newc _ 16 _ rfl) hw5)) ?_
   refine ⟨fun h => by simp at h, ?_⟩
   try simp only [Act.put, pu1, pu2, pu3]
   refine tkP 12 (some 10) hSu ?_
   refine wpAnyU_done (by kernel_rfl) (fun wF huE => ?_) _
   have l7 := hw4.size
   have hnew : Row (w4.alloc (.cells (cells 16 (fun _ => 0)) 78)) w4.heap.size 78 16 (fun _ => 0) := row_newc _ 16 _ rfl
   have g1 := (((((hS1).up hw4).up (Up.alloc _ _)).up hw5).row_other (cells 16 (limb eq)) (show w.heap.size ≠ w4.heap.size by omega)).up huE
   have g2 := (((((hS2).up hw4).up (Up.alloc _ _)).up hw5).row_other (cells 16 (limb eq)) (show w.heap.size + 1 ≠ w4.heap.size by omega)).up huE
   have g3 := (((((hS3).up hw4).up (Up.alloc _ _)).up hw5).row_other (cells 16 (limb eq)) (show w.heap.size + 1 + 1 ≠ w4.heap.size by omega)).up huE
   have g4 := (((((hS4).up hw4).up (Up.alloc _ _)).up hw5).row_other (cells 16 (limb eq)) (show w.heap.size + 1 + 1 + 1 ≠ w4.heap.size by omega)).up huE
   have gq := (((((hS6).up hw4).up (Up.alloc _ _)).up hw5).row_other (cells 16 (limb eq)) (show q' ≠ w4.heap.size by omega)).up huE
   have gp := (((hnew).up hw5).setRow (limb eq)).up huE
   have gB := below_up (below_setRow (below_up (below_up (below_up (hSB) hw4) (Up.alloc _ _)) hw5) (show w.heap.size <= w4.heap.size by omega) (cells 16 (limb eq))) huE
   clear hS1 hS2 hS3 hS4 hS5 hS6 hSB hSS hw4 hw5 huE hnew
   go_wp2
   refine opU (S := (fun wq => Row wq (w.heap.size) 78 16 (limb (enc a)) /\ Row wq (w.heap.size + 1 + 1) 78 16 (fun _ => 0) /\ Row wq (w.heap.size + 1 + 1 + 1) 78 16 (fun _ => 0) /\ Row wq w4.heap.size 78 16 (limb eq) /\ Row wq q' 78 16 (limb r) /\ Below w.heap.size w wq)) (req := (fun j => j != 8)) (fun _ _ h hu => ⟨(h.1).up hu, (h.2.1).up hu, (h.2.2.1).up hu, (h.2.2.2.1).up hu, (h.2.2.2.2.1).up hu, below_up (h.2.2.2.2.2) hu⟩) ⟨gRow, gRow, gRow, gRow, gRow, gUp⟩ (fun wS hSS hSu => ?_)
   have ⟨hS1, hS2, hS3, hS4, hS5, hSB⟩ := hSS
   clear g1 g2 g3 g4 gp gq gB
   refine tkT 0 (some 41) rfl hSu hSS ?_ (hy := fun w' hSw => run_ld undW infoW _ rfl _ rfl hSw.2.2.2.2.1)
   refine tkT 1 (some 42) rfl hSu hSS ?_ (hy := fun w' hSw => run_ld undW infoW _ rfl _ rfl hSw.1)
   refine tkC 2 (some 43) rfl hSu hSS ?_ (hy := fun w' hSw => (HMA.out _))
   refine tkC 3 (some 44) rfl hSu hSS ?_ (hy := fun w' hSw => (HSR.out _))
   refine tkP 4 (some 40) hSu ?_
   refine tkP 5 (some 45) hSu ?_
   refine tkP 6 (some 46) hSu ?_
   have m3 := hS3.lt
   have m4 := hS4.lt
   have m5 := hS5.lt
   refine wpAnyU_allocW (i := 7) (d := (some 11)) rfl rfl (by kernel_rfl) (by rfl) rfl hSu.out fun w6 hw6 => ?_
   try simp only [Act.put, pu1, pu2, pu3]
   refine wpAnyU_one (i := 8) rfl (by kernel_rfl) (by rfl) fun w7 hw7 => ?_
   refine wp_st_rowN infoW rfl _ _ rfl _ rfl rfl ((Row.up (row_newc _ 16 _ rfl) hw7)) ?_
   refine ⟨fun h => by simp at h, ?_⟩
   try simp only [Act.put, pu1, pu2, pu3]
   refine tkP 9 (some 12) hSu ?_
   refine wpAnyU_done (by kernel_rfl) (fun wF huE => ?_) _
   have m7 := hw6.size
   have hnew : Row (w6.alloc (.cells (cells 16 (fun _ => 0)) 78)) w6.heap.size 78 16 (fun _ => 0) := row_newc _ 16 _ rfl
   have g3 := (((((hS2).up hw6).up (Up.alloc _ _)).up hw7).row_other (cells 16 (limb er)) (show w.heap.size + 1 + 1 ≠ w6.heap.size by omega)).up huE
   have g4 := (((((hS3).up hw6).up (Up.alloc _ _)).up hw7).row_other (cells 16 (limb er)) (show w.heap.size + 1 + 1 + 1 ≠ w6.heap.size by omega)).up huE
   have gp := (((((hS4).up hw6).up (Up.alloc _ _)).up hw7).row_other (cells 16 (limb er)) (show w4.heap.size ≠ w6.heap.size by omega)).up huE
   have gr := (((hnew).up hw7).setRow (limb er)).up huE
   have gB := below_up (below_setRow (below_up (below_up (below_up (hSB) hw6) (Up.alloc _ _)) hw7) (show w.heap.size <= w6.heap.size by omega) (cells 16 (limb er))) huE
   clear hS1 hS2 hS3 hS4 hS5 hSB hSS hw6 hw7 huE hnew
   go_wp2
   refine opU (S := (fun wq => Row wq w4.heap.size 78 16 (limb eq) /\ Row wq w6.heap.size 78 16 (limb er) /\ ExRow wq (w.heap.size + 1 + 1) 78 16 /\ ExRow wq (w.heap.size + 1 + 1 + 1) 78 16 /\ Below w.heap.size w wq)) (req := (fun j => j != 3)) (fun _ _ h hu => ⟨(h.1).up hu, (h.2.1).up hu, (h.2.2.1).up hu, (h.2.2.2.1).up hu, below_up (h.2.2.2.2) hu⟩) ⟨gRow, gRow, ⟨_, gRow⟩, ⟨_, gRow⟩, gUp⟩ (fun wS hSS hSu => ?_)
   have ⟨hS1, hS2, hS3, hS4, hSB⟩ := hSS
   clear g3 g4 gp gr gB
   refine tkT 0 (some 47) rfl hSu hSS ?_ (hy := fun w' hSw => run_ld undW infoW _ rfl _ rfl hSw.1)
   refine tkT 1 (some 48) rfl hSu hSS ?_ (hy := fun w' hSw => run_ld undW infoW _ rfl _ rfl hSw.2.1)
   obtain ⟨v3, hS3⟩ := hS3
   obtain ⟨v4, hS4⟩ := hS4
   refine wpAnyU_one (i := 2) rfl (by kernel_rfl) (by rfl) fun w8 hw8 => ?_
   refine wp_st_rowN infoW rfl _ _ rfl _ rfl rfl (hS3.up hw8) ?_
   refine ⟨fun _ h => ⟨h.1.row_other _ (by omega), h.2.1.row_other _ (by omega), h.2.2.1.st _, h.2.2.2.1.st _, below_setRow h.2.2.2.2 (by omega) _⟩, ?_⟩
   refine wpAnyU_one (i := 3) rfl (by kernel_rfl) (by rfl) fun w9 hw9 => ?_
   refine wp_st_rowN infoW rfl _ _ rfl _ rfl rfl ((Row.up (((hS4.up hw8).row_other (cells 16 (limb eq)) (show w.heap.size + 1 + 1 + 1 ≠ w.heap.size + 1 + 1 by omega))) hw9)) ?_
   refine ⟨fun h => by simp at h, ?_⟩
   try simp only [Act.put, pu1, pu2, pu3]
   refine tkP 4 (some 6) hSu ?_
   refine wpAnyU_done (by kernel_rfl) (fun wF huE => ?_) _
   have gA := (((((hS3).up hw8).setRow (limb eq)).up hw9).row_other (cells 16 (limb er)) (show w.heap.size + 1 + 1 ≠ w.heap.size + 1 + 1 + 1 by omega)).up huE
   have gC := (((((hS4).up hw8).row_other (cells 16 (limb eq)) (show w.heap.size + 1 + 1 + 1 ≠ w.heap.size + 1 + 1 by omega)).up hw9).setRow (limb er)).up huE
   have gB := below_up (below_setRow (below_up (below_setRow (below_up (hSB) hw8) (show w.heap.size <= w.heap.size + 1 + 1 by omega) (cells 16 (limb eq))) hw9) (show w.heap.size <= w.heap.size + 1 + 1 + 1 by omega) (cells 16 (limb er))) huE
   clear hS1 hS2 hS3 hS4 hSB hSS hw8 hw9 huE
   go_wp2
   exact bodyPost_ret (resCCT rfl undW infoW _ _ _ rfl rfl gA gC) rfl ⟨rfl, gB⟩
  ·rw [opt_no hin] at hSQ
   have HSQ := hid hSQ
   have e : divZV a b = .tuple #[.agg (cells 16 (fun _ => 0)), .agg (cells 16 (fun _ => 0)), .bool false] := by unfold divZV; rw [if_pos (.inr hin)]
   rw [e]
   clear e hSQ hin h0
   unfold wideV at *
   go_enter Tryz.func83, Tryz.ntmps83
   go_wp2_with (first | ((with_reducible apply ld_rowP undW infoW); exact rfl; exact rfl; exact gRow) | ((with_reducible apply st_rowP infoW); exact rfl; exact rfl; exact gRow) | ((with_reducible apply st_rowZ infoW); exact rfl; exact rfl; exact gRow) | ((with_reducible apply eqP); exact rfl; exact rfl; exact rfl; assumption; assumption; assumption) | ((with_reducible apply eqZP); exact rfl; exact rfl; exact rfl; assumption; assumption) | ((with_reducible apply neP); exact rfl; exact rfl; exact rfl; assumption; assumption; assumption) | ((with_reducible apply neZP); exact rfl; exact rfl; exact rfl; assumption; assumption))
   refine opU (S := (fun wq => Row wq (w.heap.size) 78 16 (limb (enc a)) /\ Row wq (w.heap.size + 1) 78 16 (limb (enc b)) /\ Row wq (w.heap.size + 1 + 1) 78 16 (fun _ => 0) /\ Row wq (w.heap.size + 1 + 1 + 1) 78 16 (fun _ => 0) /\ Below w.heap.size w wq)) (req := (fun j => j != 10 && j != 11)) (fun _ _ h hu => ⟨(h.1).up hu, (h.2.1).up hu, (h.2.2.1).up hu, (h.2.2.2.1).up hu, below_up (h.2.2.2.2) hu⟩) ⟨gRow, gRow, gRow, gRow, gUp⟩ (fun wS hSS hSu => ?_)
   have ⟨hS1, hS2, hS3, hS4, hSB⟩ := hSS
   refine tkT 0 (some 19) rfl hSu hSS ?_ (hy := fun w' hSw => run_ld undW infoW _ rfl _ rfl hSw.1)
   refine tkC 1 (some 20) rfl hSu hSS ?_ (hy := fun w' hSw => (HA.out _))
   refine tkT 2 (some 21) rfl hSu hSS ?_ (hy := fun w' hSw => run_ld undW infoW _ rfl _ rfl hSw.2.1)
   refine tkC 3 (some 22) rfl hSu hSS ?_ (hy := fun w' hSw => (HB.out _))
   refine tkC 4 (some 23) rfl hSu hSS ?_ (hy := fun w' hSw => (HD.out _))
   refine tkP 5 (some 18) hSu ?_
   refine tkP 6 (some 24) hSu ?_
   refine tkP 7 (some 25) hSu ?_
   refine wpAnyU_alloc2 (i := 8) (j := 9) (di := 7) (dj := 8) rfl rfl rfl rfl (by decide) rfl rfl rfl rfl (by kernel_rfl) (by kernel_rfl) (by kernel_rfl) (by decide) (fun _ _ h hu => ⟨(h.1).up hu, (h.2.1).up hu, (h.2.2.1).up hu, (h.2.2.2.1).up hu, below_up (h.2.2.2.2) hu⟩) fun w1 p q' hw1 hp hq hpq hpl hql => ?_
   try simp only [Act.put, pu1, pu2, pu3]
   have hlt := hS4.lt
   refine wpAnyU_one (i := 10) rfl (by kernel_rfl) (by rfl) fun w2 hw2 => ?_
   refine wp_st_rowN infoW rfl _ _ rfl _ rfl rfl ((hp.up hw2)) ?_
   refine ⟨fun h => by simp at h, ?_⟩
   try simp only [Act.put, pu1, pu2, pu3]
   refine wpAnyU_one (i := 11) rfl (by kernel_rfl) (by rfl) fun w3 hw3 => ?_
   refine wp_st_rowN infoW rfl _ _ rfl _ rfl rfl ((((hq.up hw2).row_other (cells 16 (limb q)) (show q' ≠ p by omega)).up hw3)) ?_
   refine ⟨fun h => by simp at h, ?_⟩
   try simp only [Act.put, pu1, pu2, pu3]
   refine wpAnyU_done (by kernel_rfl) (fun wF huE => ?_) _
   have g1 := ((((((hS1).up hw1).up hw2).row_other (cells 16 (limb q)) (show w.heap.size ≠ p by omega)).up hw3).row_other (cells 16 (limb r)) (show w.heap.size ≠ q' by omega)).up huE
   have g2 := ((((((hS2).up hw1).up hw2).row_other (cells 16 (limb q)) (show w.heap.size + 1 ≠ p by omega)).up hw3).row_other (cells 16 (limb r)) (show w.heap.size + 1 ≠ q' by omega)).up huE
   have g3 := ((((((hS3).up hw1).up hw2).row_other (cells 16 (limb q)) (show w.heap.size + 1 + 1 ≠ p by omega)).up hw3).row_other (cells 16 (limb r)) (show w.heap.size + 1 + 1 ≠ q' by omega)).up huE
   have g4 := ((((((hS4).up hw1).up hw2).row_other (cells 16 (limb q)) (show w.heap.size + 1 + 1 + 1 ≠ p by omega)).up hw3).row_other (cells 16 (limb r)) (show w.heap.size + 1 + 1 + 1 ≠ q' by omega)).up huE
   have gp := (((((hp).up hw2).setRow (limb q)).up hw3).row_other (cells 16 (limb r)) (show p ≠ q' by omega)).up huE
   have gq := (((((hq).up hw2).row_other (cells 16 (limb q)) (show q' ≠ p by omega)).up hw3).setRow (limb r)).up huE
   have gB := below_up (below_setRow (below_up (below_setRow (below_up (below_up (hSB) hw1) hw2) (show w.heap.size <= p by omega) (cells 16 (limb q))) hw3) (show w.heap.size <= q' by omega) (cells 16 (limb r))) huE
   clear hS1 hS2 hS3 hS4 hSB hSS hw1 hw2 hw3 huE hp hq
   go_wp2
   refine opU (S := (fun wq => Row wq (w.heap.size) 78 16 (limb (enc a)) /\ Row wq (w.heap.size + 1) 78 16 (limb (enc b)) /\ Row wq (w.heap.size + 1 + 1) 78 16 (fun _ => 0) /\ Row wq (w.heap.size + 1 + 1 + 1) 78 16 (fun _ => 0) /\ Row wq p 78 16 (limb q) /\ Row wq q' 78 16 (limb r) /\ Below w.heap.size w wq)) (req := (fun j => j != 11)) (fun _ _ h hu => ⟨(h.1).up hu, (h.2.1).up hu, (h.2.2.1).up hu, (h.2.2.2.1).up hu, (h.2.2.2.2.1).up hu, (h.2.2.2.2.2.1).up hu, below_up (h.2.2.2.2.2.2) hu⟩) ⟨gRow, gRow, gRow, gRow, gRow, gRow, gUp⟩ (fun wS hSS hSu => ?_)
   have ⟨hS1, hS2, hS3, hS4, hS5, hS6, hSB⟩ := hSS
   clear g1 g2 g3 g4 gp gq gB
   refine tkT 0 (some 27) rfl hSu hSS ?_ (hy := fun w' hSw => run_ld undW infoW _ rfl _ rfl hSw.2.2.2.2.1)
   refine tkT 1 (some 28) rfl hSu hSS ?_ (hy := fun w' hSw => run_ld undW infoW _ rfl _ rfl hSw.1)
   refine tkC 2 (some 29) rfl hSu hSS ?_ (hy := fun w' hSw => (HMA.out _))
   refine tkT 3 (some 30) rfl hSu hSS ?_ (hy := fun w' hSw => run_ld undW infoW _ rfl _ rfl hSw.2.1)
   refine tkC 4 (some 31) rfl hSu hSS ?_ (hy := fun w' hSw => (HMB.out _))
   refine tkP 5 (some 32) hSu ?_
   refine tkC 6 (some 33) rfl hSu hSS ?_ (hy := fun w' hSw => (HSQ.out _))
   refine tkP 7 (some 26) hSu ?_
   refine tkP 8 (some 34) hSu ?_
   refine tkP 9 (some 35) hSu ?_
   have l4 := hS4.lt
   have l5 := hS5.lt
   have l6 := hS6.lt
   refine wpAnyU_allocW (i := 10) (d := (some 9)) rfl rfl (by kernel_rfl) (by rfl) rfl hSu.out fun w4 hw4 => ?_
   try simp only [Act.put, pu1, pu2, pu3]
   refine wpAnyU_one (i := 11) rfl (by kernel_rfl) (by rfl) fun w5 hw5 => ?_
   refine wp_st_rowN infoW rfl _ _ rfl _ rfl rfl ((Row.up (row_newc _ 16 _ rfl) hw5)) ?_
   refine ⟨fun h => by simp at h, ?_⟩
   try simp only [Act.put, pu1, pu2, pu3]
   refine tkP 12 (some 10) hSu ?_
   refine wpAnyU_done (by kernel_rfl) (fun wF huE => ?_) _
   have l7 := hw4.size
   have hnew : Row (w4.alloc (.cells (cells 16 (fun _ => 0)) 78)) w4.heap.size 78 16 (fun _ => 0) := row_newc _ 16 _ rfl
   have g1 := (((((hS1).up hw4).up (Up.alloc _ _)).up hw5).row_other (cells 16 (fun _ => 0)) (show w.heap.size ≠ w4.heap.size by omega)).up huE
   have g2 := (((((hS2).up hw4).up (Up.alloc _ _)).up hw5).row_other (cells 16 (fun _ => 0)) (show w.heap.size + 1 ≠ w4.heap.size by omega)).up huE
   have g3 := (((((hS3).up hw4).up (Up.alloc _ _)).up hw5).row_other (cells 16 (fun _ => 0)) (show w.heap.size + 1 + 1 ≠ w4.heap.size by omega)).up huE
   have g4 := (((((hS4).up hw4).up (Up.alloc _ _)).up hw5).row_other (cells 16 (fun _ => 0)) (show w.heap.size + 1 + 1 + 1 ≠ w4.heap.size by omega)).up huE
   have gq := (((((hS6).up hw4).up (Up.alloc _ _)).up hw5).row_other (cells 16 (fun _ => 0)) (show q' ≠ w4.heap.size by omega)).up huE
   have gp := (((hnew).up hw5).setRow (fun _ => 0)).up huE
   have gB := below_up (below_setRow (below_up (below_up (below_up (hSB) hw4) (Up.alloc _ _)) hw5) (show w.heap.size <= w4.heap.size by omega) (cells 16 (fun _ => 0))) huE
   clear hS1 hS2 hS3 hS4 hS5 hS6 hSB hSS hw4 hw5 huE hnew
   go_wp2_with (first | ((with_reducible apply st_rowP infoW); exact rfl; exact rfl; exact gRow) | ((with_reducible apply st_rowZ infoW); exact rfl; exact rfl; exact gRow))
   exact bodyPost_ret (resCCT rfl undW infoW _ _ _ rfl rfl gRow gRow) rfl ⟨rfl, gUp⟩
end Go.Proofs.YtdpgpchcgmmklaaGreatDoor
namespace Go.Proofs.YtdpgpchcgmmklaaGreatDoor
open Go Go.RowKit Go.ChangeShapes
section
variable {H : Type} {enc : TypeId × Value -> H} {P : Program}
end
end Go.Proofs.YtdpgpchcgmmklaaGreatDoor
namespace Go.Proofs.YtdpgpchcgmmklaaGreatDoor
open Go Go.RowKit
set_option maxRecDepth 100000
theorem lt_bp_self (x : Nat) : x < bp x := by
 induction x with
 | zero => rw [bp_zero]; omega
 | succ n ih => rw [bp_succ]; omega
def nl (x : Nat) : Nat := lenL (limb x) x
theorem sum_len {x N : Nat} (h : x < bp N) : sumL (limb x) (lenL (limb x) N) = x := by
 rw [lenL_sum, sumL_limb, Nat.mod_eq_of_lt h]
theorem lt_bp_len {x N : Nat} (h : x < bp N) : x < bp (lenL (limb x) N) := by
 have h1 := sum_len h
 have h2 := sumL_lt (f := limb x) (k := lenL (limb x) N) fun i _ => limb_lt x i
 omega
theorem nl_eq {x N : Nat} (h : x < bp N) : lenL (limb x) N = nl x := by
 have h1 := lt_bp_len h
 have h2 := lenL_top (limb x) N
 have hle : lenL (limb x) N <= x \/ lenL (limb x) N = 0 := by
  rcases Nat.eq_zero_or_pos (lenL (limb x) N) with h0 | h0
  ·exact .inr h0
  ·have h3 := bp_le_of_len (limb x) N h0
   rw [sumL_limb, Nat.mod_eq_of_lt h] at h3
   have h4 := lt_bp_self (lenL (limb x) N - 1)
   exact .inl (by omega)
 refine (lenL_of (limb x) (by omega) (fun i hi _ => limb_of_small h1 hi) ?_).symm
 rcases Nat.eq_zero_or_pos (lenL (limb x) N) with h0 | h0
 ·exact .inl h0
 ·exact .inr (h2 h0)
theorem lt_bp_nl (x : Nat) : x < bp (nl x) := lt_bp_len (lt_bp_self x)
theorem bp_le_nl {x : Nat} (h : 0 < nl x) : bp (nl x - 1) <= x := by
 have h3 := bp_le_of_len (limb x) x h
 rw [sumL_limb, Nat.mod_eq_of_lt (lt_bp_self x)] at h3
 exact h3
theorem nl_le {x k : Nat} (h : x < bp k) : nl x <= k := by rw [<- nl_eq h]; exact lenL_le _ _
theorem nl_zero : nl 0 = 0 := rfl
theorem nl_pos {x : Nat} (h : 0 < x) : 0 < nl x := by
 rcases Nat.eq_zero_or_pos (nl x) with h0 | h0
 ·have := lt_bp_nl x
  rw [h0, bp_zero] at this
  omega
 ·exact h0
theorem nl_pos_iff {x : Nat} : 0 < nl x ↔ 0 < x := by
 constructor
 ·intro h
  rcases Nat.eq_zero_or_pos x with h0 | h0
  ·subst h0; simp [nl_zero] at h
  ·exact h0
 ·exact nl_pos
theorem limb_nl {x i : Nat} (h : nl x <= i) : limb x i = 0 := limb_of_small (lt_bp_nl x) h
theorem sum_nl (x : Nat) : sumL (limb x) (nl x) = x := sum_len (lt_bp_self x)
theorem nl_sum {S : Nat -> Nat} {n : Nat} (hS : ∀ i, i < n -> S i < 18446744073709551616) : nl (sumL S n) = lenL S n := by
 rw [<- nl_eq (sumL_lt hS)]
 exact lenL_congr fun i hi => limb_sumL hS hi
def Am (w : World) (v : Value) (x : Nat) : Prop :=
 ∃ a c, v = .slice a (nl x) c /\ nl x <= c /\ (0 < nl x -> ∃ b C, a = some ⟨b, 0, none⟩ /\ Blk w b 76 C /\ ∀ i, i < nl x -> C[i]? = some (.int .u64 (limb x i : Nat)))
theorem Am.up {w w' : World} {v : Value} {x : Nat} (h : Am w v x) (hu : Up w w') : Am w' v x := by
 obtain ⟨a, c, h1, h2, h3⟩ := h
 refine ⟨a, c, h1, h2, fun h0 => ?_⟩
 obtain ⟨b, C, h4, h6, h7⟩ := h3 h0
 exact ⟨b, C, h4, h6.up hu, h7⟩
theorem Am.open {w : World} {v : Value} {x : Nat} (h : Am w v x) : ∃ a c, v = .slice a (nl x) c /\ nl x <= c /\
   ∀ i, i < nl x -> ∃ b, a = some ⟨b, 0, none⟩ /\ b < w.heap.size /\ ∀ w', Up w w' -> w'.cell? ⟨b, i, none⟩ = some (.int .u64 (limb x i : Nat)) := by
 obtain ⟨a, c, h1, h2, h3⟩ := h
 refine ⟨a, c, h1, h2, fun i hi => ?_⟩
 obtain ⟨b, C, h4, h6, h7⟩ := h3 (by omega)
 exact ⟨b, h4, h6.lt, fun w' hu => (h6.up hu).cell i (h7 i hi)⟩
theorem am_nil (w : World) : Am w (.slice none 0 0) 0 := ⟨none, 0, by rw [nl_zero], by rw [nl_zero]; exact Nat.le_refl _, fun h => by rw [nl_zero] at h; omega⟩
theorem am_blk {w : World} {b n c : Nat} {S : Nat -> Nat} {C : Array Value} (hB : Blk w b 76 C) (hC : ∀ i, i < n -> C[i]? = some (.int .u64 (S i : Nat))) (hc : n <= c) (hS : ∀ i, i < n -> S i < 18446744073709551616) :
   Am w (.slice (some ⟨b, 0, none⟩) (lenL S n) c) (sumL S n) := by
 have h1 := lenL_le S n
 refine ⟨_, c, by rw [nl_sum hS], by rw [nl_sum hS]; omega, fun _ => ⟨b, C, rfl, hB, fun i hi => ?_⟩⟩
 rw [nl_sum hS] at hi
 rw [limb_sumL hS (by omega)]
 exact hC i (by omega)
theorem am_row {w : World} {b n N c : Nat} {S : Nat -> Nat} (hR : Row w b 76 N S) (hN : n <= N) (hc : n <= c) (hS : ∀ i, i < n -> S i < 18446744073709551616) :
   Am w (.slice (some ⟨b, 0, none⟩) (lenL S n) c) (sumL S n) := am_blk hR (fun i hi => cells_get N S i (by omega)) hc hS
def slen : Value -> Nat
 | .slice _ n _ => n
 | _ => 0
set_option maxHeartbeats 400000 in
theorem trim_cells (b n c : Nat) (S : Nat -> Nat) (w : World) (hR : ∀ i, i < n -> w.cell? ⟨b, i, none⟩ = some (.int .u64 (S i : Nat))) (hc : n <= c) (hn : n < 1000000) :
   Calls Tryz.prog 50 #[.slice (some ⟨b, 0, none⟩) n c] w fun e w' => e = .returned (.slice (some ⟨b, 0, none⟩) (lenL S n) c) /\ Up w w' := by
 go_enter Tryz.func50, Tryz.ntmps50
 go_wp2
 go_loopw [0] (fun t wr => ∃ k : Nat, k <= n /\ t = .slice (some ⟨b, 0, none⟩) k c /\ lenL S k = lenL S n /\ wr = w) (fun t _ => slen t)
 case atStart => exact ⟨n, Nat.le_refl _, rfl, rfl, rfl⟩
 case round =>
  obtain ⟨k, hk, rfl, hl, rfl⟩ := hrel
  by_cases h0 : 0 < k
  ·obtain ⟨j, rfl⟩ : ∃ j, k = j + 1 := ⟨k - 1, by omega⟩
   have hcx := hR j (by omega)
   have hstep := lenL_succ S j
   have hjc : (j : Int) <= c := by omega
   generalize S j = s at *
   by_cases hs : s = 0
   ·subst hs
    rw [if_pos rfl] at hstep
    have HL := hid (hstep.symm.trans hl)
    clear hstep hl
    go_wp2
    go_roundw
    case rel => exact ⟨j, by omega, rfl, HL.out, trivial⟩
    case measure => simp [slen]
   ·rw [if_neg hs] at hstep
    have HL := hid (hstep.symm.trans hl)
    have hb : ((s : Int) == 0) = false := by simpa using hs
    clear hstep hl hs
    go_wp2
    go_ret
    exact ⟨by rw [<- HL.out]; rfl, gUp⟩
  ·obtain rfl : k = 0 := by omega
   have HL := hid hl
   clear hl
   go_wp2
   go_ret
   exact ⟨by rw [<- HL.out]; rfl, gUp⟩
theorem trim_row (b n N c : Nat) (S : Nat -> Nat) (w : World) (hR : Row w b 76 N S) (hN : n <= N) (hc : n <= c) (hn : n < 1000000) :
   Calls Tryz.prog 50 #[.slice (some ⟨b, 0, none⟩) n c] w fun e w' => e = .returned (.slice (some ⟨b, 0, none⟩) (lenL S n) c) /\ Up w w' :=
 trim_cells b n c S w (fun i hi => hR.cell i (by omega)) hc hn
theorem undS : Tryz.prog.underlying 57 = some (.slice 76) := by kernel_rfl
theorem infoU : (Tryz.prog.info? 76).map (fun i => (i.zero, i.size, i.bytes)) = some (some (.int .u64 0), 1, 8) := by kernel_rfl
theorem zeros_made (n : Nat) : madeCells (Value.int .u64 0).cells n = cells n (fun _ => 0) := by
 unfold cells
 apply Array.ext
 ·simp [madeCells]
 ·intro i h1 h2
  simp [madeCells, Value.cells, Nat.mod_one]
theorem mkP {ops : Array Oper} {rest : List Oper} {Q : Exit -> Act -> World -> Prop} {a : Act} {w : World} {d : Option Tmp} {l : Tmp} {ty : TypeId} {pos : String} {af : Array Edge} {L : Int} {n : Nat} (hl : a.eval (.tmp l) = .int .i64 L) (hL : L = (n : Int)) (hn : n < 1000000)
   (h : wpList Tryz.prog ops Q rest (a.put d (.slice (some ⟨w.heap.size, 0, none⟩) n n)) (w.alloc (.cells (cells n (fun _ => 0)) 76))) :
   wpList Tryz.prog ops Q ({ dst := d, op := .makeSlice 57 (.tmp l) (.tmp l), type := ty, pos := pos, after := af, guard := none } :: rest) a w := by
 refine wpList_plain rfl fun _ hK => ?_
 have hi := infoU
 cases hq : Tryz.prog.info? 76 with
 | none => rw [hq] at hi; simp at hi
 | some i =>
   rw [hq] at hi
   simp only [Option.map_some, Option.some.injEq, Prod.mk.injEq] at hi
   have hr := run_make (P := Tryz.prog) (w := w) 57 76 i (.int .u64 0) undS hq hi.1 .i64 .i64 L L (by omega) (by omega) (by rw [hi.2.2]; omega) (by omega)
   rw [hi.2.1, Nat.mul_one, hL, Int.toNat_natCast, zeros_made] at hr
   unfold Oper.wp execOp
   simp only [hl, hL, Sem.run_bind, Sem.run_pure, Result.andThen_ok, hr]
   exact hK _ _ h
theorem plus_end {S : Nat -> Nat} {x y k c : Nat} (_ : ∀ j, j < k + 1 -> S j < 18446744073709551616) (hx : nl x <= k) (hy : nl y <= k) (h : sumL S (k + 1) + c * bp (k + 1) = sumL (limb x) (k + 1) + sumL (limb y) (k + 1)) : sumL S (k + 1) = x + y := by
 have h1 := bp_mono hx
 have h2 := bp_mono hy
 have h3 := lt_bp_nl x
 have h4 := lt_bp_nl y
 have h5 := bp_succ k
 rw [sumL_limb, sumL_limb, Nat.mod_eq_of_lt (show x < bp (k + 1) by omega), Nat.mod_eq_of_lt (show y < bp (k + 1) by omega)] at h
 rcases Nat.eq_zero_or_pos c with h0 | h0
 ·subst h0; omega
 ·have : 1 * bp (k + 1) <= c * bp (k + 1) := Nat.mul_le_mul_right _ h0
  omega
theorem minus_end {S : Nat -> Nat} {x y k c : Nat} (hS : ∀ j, j < k -> S j < 18446744073709551616) (hx : nl x <= k) (hxy : y <= x) (h : sumL S k + sumL (limb y) k = sumL (limb x) k + c * bp k) : sumL S k = x - y := by
 have h1 := bp_mono hx
 have h3 := lt_bp_nl x
 have h5 := sumL_lt hS
 rw [sumL_limb, sumL_limb, Nat.mod_eq_of_lt (show x < bp k by omega), Nat.mod_eq_of_lt (show y < bp k by omega)] at h
 rcases Nat.eq_zero_or_pos c with h0 | h0
 ·subst h0; omega
 ·have : 1 * bp k <= c * bp k := Nat.mul_le_mul_right _ h0
  omega
theorem padd_step {S : Nat -> Nat} {X Y A B c r c' i : Nat} (h : sumL S i + c * bp i = A + B) (hr : r + c' * 18446744073709551616 = X + Y + c) : sumL (upd S i r) (i + 1) + c' * bp (i + 1) = A + X * bp i + (B + Y * bp i) := by
 rw [sumL_upd_succ, bp_succ]
 have h2 : (r + c' * 18446744073709551616) * bp i = (X + Y + c) * bp i := by rw [hr]
 have h3 : r * bp i + c' * (bp i * 18446744073709551616) = X * bp i + Y * bp i + c * bp i := by grind
 omega
theorem psub_step {S : Nat -> Nat} {X Y A B c r c' i : Nat} (h : sumL S i + B = A + c * bp i) (hr : r + Y + c = X + c' * 18446744073709551616) : sumL (upd S i r) (i + 1) + (B + Y * bp i) = A + X * bp i + c' * bp (i + 1) := by
 rw [sumL_upd_succ, bp_succ]
 have h2 : (r + Y + c) * bp i = (X + c' * 18446744073709551616) * bp i := by rw [hr]
 have h3 : r * bp i + Y * bp i + c * bp i = X * bp i + c' * (bp i * 18446744073709551616) := by grind
 omega
set_option maxHeartbeats 1000000 in
theorem plus_am {x y : Nat} {va vb : Value} {w : World} (ha : Am w va x) (hb : Am w vb y) (hx : nl x < 100000) (hy : nl y < 100000) :
   Calls Tryz.prog 57 #[va, vb] w fun e w' => Up w w' /\ ∃ v, e = .returned v /\ Am w' v (x + y) := by
 obtain ⟨a, ca, rfl, hca1, hca0⟩ := ha.open
 obtain ⟨b, cb, rfl, hcb1, hcb0⟩ := hb.open
 obtain ⟨k, hk, hk1, hk2, hk3⟩ : ∃ k : Nat, max ((nl x : Nat) : Int) (nl y : Nat) = (k : Nat) /\ nl x <= k /\ nl y <= k /\ k < 100000 := ⟨max (nl x) (nl y), by omega, by omega, by omega, by omega⟩
 clear ha hb
 go_enter Tryz.func57, Tryz.ntmps57
 go_wp2_with (first | ((with_reducible apply mkP (n := k + 1)); exact rfl; (first | rfl | omega); omega))
 go_loopw [7, 8] (fun tc ti wr => ∃ (i cc : Nat) (S : Nat -> Nat), i <= k + 1 /\ tc = .int .u64 (cc : Nat) /\ ti = .int .i64 (i : Nat) /\ cc <= 1 /\ (∀ j, j < k + 1 -> S j < 18446744073709551616) /\ sumL S i + cc * bp i = sumL (limb x) i + sumL (limb y) i /\ Row wr w.heap.size 76 (k + 1) S /\ Below w.heap.size w wr)
  (fun _ ti _ => k + 1 - (intOf ti).toNat)
 case atStart => exact ⟨0, 0, fun _ => 0, by omega, rfl, rfl, by omega, fun _ _ => by simp, by simp [sumL_zero], row_newc _ _ _ rfl, (by repeat (first | assumption | (with_reducible apply Up.of) | (with_reducible exact Below.refl _ _) | ((with_reducible apply bl_setCell); (focus (first | exact Nat.le_refl _ | (simp; done) | (simp; omega) | omega))) | ((with_reducible apply bl_alloc); (focus (first | exact Nat.le_refl _ | (simp; done) | (simp; omega) | omega)))))⟩
 case round =>
  obtain ⟨i, cc, S, hi, rfl, rfl, hcc, hSb, hsum, hS, hB⟩ := hrel
  have HSb := hid hSb
  have Hsum := hid hsum
  clear hSb hsum
  by_cases hlt : i < k + 1
  ·by_cases hp : i < nl x
   ·by_cases hq : i < nl y
    ·have h_ := hp
     obtain ⟨ba, rfl, hba, hca⟩ := hca0 i hp
     have hcx := hca wr hB
     obtain ⟨bb, rfl, hbb, hcb⟩ := hcb0 i hq
     have hcy := hcb wr hB
     obtain ⟨r, c', hadd, hrc, hrl, hc1⟩ : ∃ r c' : Nat, (∀ w, (callFunc 77 #[.int .u64 (limb x i : Nat), .int .u64 (limb y i : Nat), .int .u64 (cc : Nat)]).run Tryz.prog w = .ok (.value (.tuple #[.int .u64 (r : Nat), .int .u64 (c' : Nat)])) w) /\ Hid (r + c' * 18446744073709551616 = limb x i + limb y i + cc) /\ r < 18446744073709551616 /\ c' <= 1 := by
      have hl1 := limb_lt x i
      have hl2 := limb_lt y i
      have h := run_add (limb x i) (limb y i) cc (by omega)
      exact ⟨_, _, h, hid (by omega), Nat.mod_lt _ (by decide), by omega⟩
     have hcs := hS.cell i (by omega)
     have hfs := hS.frozen i
     have gS := hS.set i r
     have gB := hB.setCell (p := ⟨w.heap.size, i, none⟩) (Nat.le_refl _) (.int .u64 (r : Nat))
     have hip : (decide ((i : Int) < (nl x : Nat))) = true := decide_eq_true (by omega)
     have hiq : decide ((i : Int) < (nl y : Nat)) = true := decide_eq_true (by omega)
     clear hB hS
     go_wp2
     go_roundw
     case rel =>
      refine ⟨i + 1, c', upd S i r, by omega, rfl, by go_num, hc1, upd_lt HSb.out hrl, ?_, gS, gB⟩
      rw [sumL_succ (limb x) i, sumL_succ (limb y) i]
      exact padd_step Hsum.out hrc.out
     case measure => simp [intOf] <;> omega
    ·have h_ := hp
     obtain ⟨ba, rfl, hba, hca⟩ := hca0 i hp
     have hcx := hca wr hB
     have hzy := limb_nl (x := y) (i := i) (by omega)
     obtain ⟨r, c', hadd, hrc, hrl, hc1⟩ : ∃ r c' : Nat, (∀ w, (callFunc 77 #[.int .u64 (limb x i : Nat), .int .u64 0, .int .u64 (cc : Nat)]).run Tryz.prog w = .ok (.value (.tuple #[.int .u64 (r : Nat), .int .u64 (c' : Nat)])) w) /\ Hid (r + c' * 18446744073709551616 = limb x i + limb y i + cc) /\ r < 18446744073709551616 /\ c' <= 1 := by
      have hl1 := limb_lt x i
      have hl2 := limb_lt y i
      have h := run_add (limb x i) (0) cc (by omega)
      simp only [show ((0 : Nat) : Int) = 0 from rfl] at h
      exact ⟨_, _, h, hid (by omega), Nat.mod_lt _ (by decide), by omega⟩
     have hcs := hS.cell i (by omega)
     have hfs := hS.frozen i
     have gS := hS.set i r
     have gB := hB.setCell (p := ⟨w.heap.size, i, none⟩) (Nat.le_refl _) (.int .u64 (r : Nat))
     have hip : (decide ((i : Int) < (nl x : Nat))) = true := decide_eq_true (by omega)
     have hiq : decide ((i : Int) < (nl y : Nat)) = false := decide_eq_false (by omega)
     clear hB hS
     go_wp2
     go_roundw
     case rel =>
      refine ⟨i + 1, c', upd S i r, by omega, rfl, by go_num, hc1, upd_lt HSb.out hrl, ?_, gS, gB⟩
      rw [sumL_succ (limb x) i, sumL_succ (limb y) i]
      exact padd_step Hsum.out hrc.out
     case measure => simp [intOf] <;> omega
   ·by_cases hq : i < nl y
    ·have h_ := hq
     have hzx := limb_nl (x := x) (i := i) (by omega)
     obtain ⟨bb, rfl, hbb, hcb⟩ := hcb0 i hq
     have hcy := hcb wr hB
     obtain ⟨r, c', hadd, hrc, hrl, hc1⟩ : ∃ r c' : Nat, (∀ w, (callFunc 77 #[.int .u64 0, .int .u64 (limb y i : Nat), .int .u64 (cc : Nat)]).run Tryz.prog w = .ok (.value (.tuple #[.int .u64 (r : Nat), .int .u64 (c' : Nat)])) w) /\ Hid (r + c' * 18446744073709551616 = limb x i + limb y i + cc) /\ r < 18446744073709551616 /\ c' <= 1 := by
      have hl1 := limb_lt x i
      have hl2 := limb_lt y i
      have h := run_add (0) (limb y i) cc (by omega)
      simp only [show ((0 : Nat) : Int) = 0 from rfl] at h
      exact ⟨_, _, h, hid (by omega), Nat.mod_lt _ (by decide), by omega⟩
     have hcs := hS.cell i (by omega)
     have hfs := hS.frozen i
     have gS := hS.set i r
     have gB := hB.setCell (p := ⟨w.heap.size, i, none⟩) (Nat.le_refl _) (.int .u64 (r : Nat))
     have hip : (decide ((i : Int) < (nl x : Nat))) = false := decide_eq_false (by omega)
     have hiq : decide ((i : Int) < (nl y : Nat)) = true := decide_eq_true (by omega)
     clear hB hS
     go_wp2
     go_roundw
     case rel =>
      refine ⟨i + 1, c', upd S i r, by omega, rfl, by go_num, hc1, upd_lt HSb.out hrl, ?_, gS, gB⟩
      rw [sumL_succ (limb x) i, sumL_succ (limb y) i]
      exact padd_step Hsum.out hrc.out
     case measure => simp [intOf] <;> omega
    ·have h_ := hq
     have hzx := limb_nl (x := x) (i := i) (by omega)
     have hzy := limb_nl (x := y) (i := i) (by omega)
     obtain ⟨r, c', hadd, hrc, hrl, hc1⟩ : ∃ r c' : Nat, (∀ w, (callFunc 77 #[.int .u64 0, .int .u64 0, .int .u64 (cc : Nat)]).run Tryz.prog w = .ok (.value (.tuple #[.int .u64 (r : Nat), .int .u64 (c' : Nat)])) w) /\ Hid (r + c' * 18446744073709551616 = limb x i + limb y i + cc) /\ r < 18446744073709551616 /\ c' <= 1 := by
      have hl1 := limb_lt x i
      have hl2 := limb_lt y i
      have h := run_add (0) (0) cc (by omega)
      simp only [show ((0 : Nat) : Int) = 0 from rfl] at h
      exact ⟨_, _, h, hid (by omega), Nat.mod_lt _ (by decide), by omega⟩
     have hcs := hS.cell i (by omega)
     have hfs := hS.frozen i
     have gS := hS.set i r
     have gB := hB.setCell (p := ⟨w.heap.size, i, none⟩) (Nat.le_refl _) (.int .u64 (r : Nat))
     have hip : (decide ((i : Int) < (nl x : Nat))) = false := decide_eq_false (by omega)
     have hiq : decide ((i : Int) < (nl y : Nat)) = false := decide_eq_false (by omega)
     clear hB hS
     go_wp2
     go_roundw
     case rel =>
      refine ⟨i + 1, c', upd S i r, by omega, rfl, by go_num, hc1, upd_lt HSb.out hrl, ?_, gS, gB⟩
      rw [sumL_succ (limb x) i, sumL_succ (limb y) i]
      exact padd_step Hsum.out hrc.out
     case measure => simp [intOf] <;> omega
  ·obtain rfl : i = k + 1 := by omega
   have he := plus_end HSb.out hk1 hk2 Hsum.out
   have ht := trim_row w.heap.size (k + 1) (k + 1) (k + 1) S wr hS (Nat.le_refl _) (Nat.le_refl _) (by omega)
   have hres := am_row (c := k + 1) hS (Nat.le_refl _) (Nat.le_refl _) HSb.out
   rw [he] at hres
   have HT := hid ht
   have HR := hid hres
   clear ht hres he HSb Hsum hS
   go_wp2_with (go_at_call 50; (with_reducible refine HT.out.mono ?_); rintro e w' ⟨rfl, hu⟩)
   go_ret
   exact ⟨below_up hB hu, _, rfl, HR.out.up hu⟩
set_option maxHeartbeats 1000000 in
theorem minus_am {x y : Nat} {va vb : Value} {w : World} (ha : Am w va x) (hb : Am w vb y) (hx : nl x < 100000) (hxy : y <= x) :
   Calls Tryz.prog 59 #[va, vb] w fun e w' => Up w w' /\ ∃ v, e = .returned v /\ Am w' v (x - y) := by
 obtain ⟨a, ca, rfl, hca1, hca0⟩ := ha.open
 obtain ⟨b, cb, rfl, hcb1, hcb0⟩ := hb.open
 obtain ⟨k, hk⟩ : ∃ k : Nat, k = nl x := ⟨_, rfl⟩
 have hqk : nl y <= nl x := nl_le (Nat.lt_of_le_of_lt hxy (lt_bp_nl x))
 clear ha hb
 go_enter Tryz.func59, Tryz.ntmps59
 go_wp2_with (first | ((with_reducible apply mkP (n := nl x)); exact rfl; (first | rfl | omega); omega))
 go_loopw [6, 7] (fun tc ti wr => ∃ (i cc : Nat) (S : Nat -> Nat), i <= nl x /\ tc = .int .u64 (cc : Nat) /\ ti = .int .i64 (i : Nat) /\ cc <= 1 /\ (∀ j, j < nl x -> S j < 18446744073709551616) /\ sumL S i + sumL (limb y) i = sumL (limb x) i + cc * bp i /\ Row wr w.heap.size 76 (nl x) S /\ Below w.heap.size w wr)
  (fun _ ti _ => nl x - (intOf ti).toNat)
 case atStart => exact ⟨0, 0, fun _ => 0, by omega, rfl, rfl, by omega, fun _ _ => by simp, by simp [sumL_zero], row_newc _ _ _ rfl, (by repeat (first | assumption | (with_reducible apply Up.of) | (with_reducible exact Below.refl _ _) | ((with_reducible apply bl_setCell); (focus (first | exact Nat.le_refl _ | (simp; done) | (simp; omega) | omega))) | ((with_reducible apply bl_alloc); (focus (first | exact Nat.le_refl _ | (simp; done) | (simp; omega) | omega)))))⟩
 case round =>
  obtain ⟨i, cc, S, hi, rfl, rfl, hcc, hSb, hsum, hS, hB⟩ := hrel
  have HSb := hid hSb
  have Hsum := hid hsum
  clear hSb hsum
  by_cases hlt : i < nl x
  ·have hp := hlt
   by_cases hq : i < nl y
   ·have h_ := hp
    obtain ⟨ba, rfl, hba, hca⟩ := hca0 i hp
    have hcx := hca wr hB
    obtain ⟨bb, rfl, hbb, hcb⟩ := hcb0 i hq
    have hcy := hcb wr hB
    obtain ⟨r, c', hadd, hrc, hrl, hc1⟩ : ∃ r c' : Nat, (∀ w, (callFunc 78 #[.int .u64 (limb x i : Nat), .int .u64 (limb y i : Nat), .int .u64 (cc : Nat)]).run Tryz.prog w = .ok (.value (.tuple #[.int .u64 (r : Nat), .int .u64 (c' : Nat)])) w) /\ Hid (r + limb y i + cc = limb x i + c' * 18446744073709551616) /\ r < 18446744073709551616 /\ c' <= 1 := by
     have hl1 := limb_lt x i
     have hl2 := limb_lt y i
     have h := run_sub (limb x i) (limb y i) cc (by omega)
     exact ⟨_, _, h, hid (by split <;> omega), Nat.mod_lt _ (by decide), by split <;> omega⟩
    have hcs := hS.cell i (by omega)
    have hfs := hS.frozen i
    have gS := hS.set i r
    have gB := hB.setCell (p := ⟨w.heap.size, i, none⟩) (Nat.le_refl _) (.int .u64 (r : Nat))
    have hip : (decide ((i : Int) < (nl x : Nat))) = true := decide_eq_true (by omega)
    have hiq : decide ((i : Int) < (nl y : Nat)) = true := decide_eq_true (by omega)
    clear hB hS
    go_wp2
    go_roundw
    case rel =>
     refine ⟨i + 1, c', upd S i r, by omega, rfl, by go_num, hc1, upd_lt HSb.out hrl, ?_, gS, gB⟩
     rw [sumL_succ (limb x) i, sumL_succ (limb y) i]
     exact psub_step Hsum.out hrc.out
    case measure => simp [intOf] <;> omega
   ·have h_ := hp
    obtain ⟨ba, rfl, hba, hca⟩ := hca0 i hp
    have hcx := hca wr hB
    have hzy := limb_nl (x := y) (i := i) (by omega)
    obtain ⟨r, c', hadd, hrc, hrl, hc1⟩ : ∃ r c' : Nat, (∀ w, (callFunc 78 #[.int .u64 (limb x i : Nat), .int .u64 0, .int .u64 (cc : Nat)]).run Tryz.prog w = .ok (.value (.tuple #[.int .u64 (r : Nat), .int .u64 (c' : Nat)])) w) /\ Hid (r + limb y i + cc = limb x i + c' * 18446744073709551616) /\ r < 18446744073709551616 /\ c' <= 1 := by
     have hl1 := limb_lt x i
     have hl2 := limb_lt y i
     have h := run_sub (limb x i) (0) cc (by omega)
     simp only [show ((0 : Nat) : Int) = 0 from rfl] at h
     exact ⟨_, _, h, hid (by split <;> omega), Nat.mod_lt _ (by decide), by split <;> omega⟩
    have hcs := hS.cell i (by omega)
    have hfs := hS.frozen i
    have gS := hS.set i r
    have gB := hB.setCell (p := ⟨w.heap.size, i, none⟩) (Nat.le_refl _) (.int .u64 (r : Nat))
    have hip : (decide ((i : Int) < (nl x : Nat))) = true := decide_eq_true (by omega)
    have hiq : decide ((i : Int) < (nl y : Nat)) = false := decide_eq_false (by omega)
    clear hB hS
    go_wp2
    go_roundw
    case rel =>
     refine ⟨i + 1, c', upd S i r, by omega, rfl, by go_num, hc1, upd_lt HSb.out hrl, ?_, gS, gB⟩
     rw [sumL_succ (limb x) i, sumL_succ (limb y) i]
     exact psub_step Hsum.out hrc.out
    case measure => simp [intOf] <;> omega
  ·obtain rfl : i = nl x := by omega
   have he := minus_end HSb.out (Nat.le_refl _) hxy Hsum.out
   have ht := trim_row w.heap.size (nl x) (nl x) (nl x) S wr hS (Nat.le_refl _) (Nat.le_refl _) (by omega)
   have hres := am_row (c := nl x) hS (Nat.le_refl _) (Nat.le_refl _) HSb.out
   rw [he] at hres
   have HT := hid ht
   have HR := hid hres
   clear ht hres he HSb Hsum hS
   go_wp2_with (go_at_call 50; (with_reducible refine HT.out.mono ?_); rintro e w' ⟨rfl, hu⟩)
   go_ret
   exact ⟨below_up hB hu, _, rfl, HR.out.up hu⟩
end Go.Proofs.YtdpgpchcgmmklaaGreatDoor
