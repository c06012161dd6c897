/-
  FaultChains: whatever is wrapped, however deep, is found, with its ops and text.
-/
import Derived.Test.YtkhcegpmgejblaaDoorEChain
import Derived.Deep.QuietTactic
import Derived.BigQuiet
namespace Go.Proofs.YtkhcegpmgejblaaDoor
open Go Go.RowKit
set_option maxRecDepth 100000
set_option maxRecDepth 100000

theorem colon_eq : colon = { data := #[58, 32] } := rfl
theorem eqStr (s : ByteArray) (w : World) : (binOp .neq 9 (.string s) (.string s)).run Tryd.prog w = .ok (.bool false) w := by
  simp [go_sem]
set_option maxHeartbeats 8000000 in
theorem chains_w {w : World} {v : Value} {l : List ByteArray} (n m : Nat) (hn : n < 256) (hm : m < 256) (hg : Glob w) (h : Strs w v l) :
    Calls Tryd.prog 3 #[v, .int .u8 (n : Nat), .int .u8 (m : Nat)] w fun r w' => r = .returned (.bool true) ∧ Up w w' := by
  have HG := hid hg
  have HS := hid h
  have HK := hid (known_true hg)
  obtain ⟨p, cap, rfl, hc⟩ := h
  by_cases h20 : 20 < l.length
  · clear hc
    go_enter Tryd.func3, Tryd.ntmps3
    go_wp2_with (first | (go_at_call 7; (with_reducible refine (HK.out).mono ?_); rintro r wK ⟨rfl, huK⟩))
    go_ret
    exact ⟨rfl, huK⟩
  · have HC := hid hc
    clear hc hg
    obtain ⟨a0, ha0⟩ : ∃ r, n % 60 = r := ⟨_, rfl⟩
    obtain ⟨b0, hb0⟩ : ∃ r, m % 60 = r := ⟨_, rfl⟩
    have ra : (n : Int).tmod 60 = (a0 : Nat) := by rw [show (60 : Int) = ((60 : Nat) : Int) from rfl, ← Int.ofNat_tmod, ha0]
    have rb : (m : Int).tmod 60 = (b0 : Nat) := by rw [show (60 : Int) = ((60 : Nat) : Int) from rfl, ← Int.ofNat_tmod, hb0]
    have la : a0 < 60 := by omega
    have lb : b0 < 60 := by omega
    have HCH : Hid (∀ w', Up w w' → Calls Tryd.prog 8 #[.slice p l.length cap, .int .u8 (n : Nat)] w' fun r w'' => ∃ u, r = .returned u ∧ Up w' w'' ∧ IsEr w'' u (chainE ((a0 : Int) + 1) l)) := hid fun w' hu => by
      have := chain_any n (by omega) (HS.out.up hu)
      rw [ha0] at this
      exact this
    clear ha0 hb0
    go_enter Tryd.func3, Tryd.ntmps3
    go_wp2_with (first | (go_at_call 7; (with_reducible refine (HK.out).mono ?_); rintro r wK ⟨rfl, huK⟩))
    go_loopg [7, 8] l.length (fun g ts ti wr => ∃ i : Nat, i ≤ l.length ∧ l.length - i ≤ g ∧ ti = .int .i64 (i : Nat) ∧ ts = .string (ahead (l.take i)) ∧ (ahead (l.take i)).size ≤ 62 * i ∧ Up w wr)
    case atStart => exact ⟨0, Nat.zero_le _, Nat.le_refl _, rfl, rfl, Nat.le_refl _, huK⟩
    case round =>
      obtain ⟨i, hi, hig, rfl, rfl, hsz, hu⟩ := hrel
      by_cases hlt : i < l.length
      · obtain ⟨a, rfl, hcell⟩ := HC.out i hlt
        have hcell' := hu.cellEq hcell
        have e1 : IntKind.i64.wrap ((i : Int) + 1) = (i : Int) + 1 := IntWalk.i64_in _ (by omega)
        by_cases h60 : 60 < (nth l i).size
        · go_wp2_with fail
          go_ret
          exact ⟨rfl, hu⟩
        · have c2 := cat (ahead (l.take i)) (nth l i) (by omega)
          have c3 := cat (ahead (l.take i) ++ nth l i) { data := #[58, 32] } (by rw [ByteArray.size_append]; show _ + 2 < _; omega)
          go_wp2_with fail
          go_roundg (l.length - (i + 1))
          case measure => omega
          case rel =>
            refine ⟨i + 1, hlt, Nat.le_refl _, rfl, ?_, ?_, hu⟩
            · rw [take_at hlt, ahead_snoc]; rfl
            · rw [take_at hlt, ahead_snoc, ByteArray.size_append, ByteArray.size_append]
              show _ + 2 ≤ _
              omega
      · obtain rfl : i = l.length := by omega
        rw [List.take_length] at hsz ⊢
        obtain ⟨e, he⟩ : ∃ e, chainE ((a0 : Int) + 1) l = e := ⟨_, rfl⟩
        have hfst : e.first = some ((a0 : Int) + 1) := by rw [← he]; exact chainE_first _ _
        have hops : e.ops = l := by rw [← he]; exact chainE_ops _ _
        have hch : e.chain := by rw [← he]; exact chainE_chain _ _ (by omega)
        have htx : e.text = ahead l ++ (errs ++ digits (a0 + 1)) := by rw [← he, chainE_text]; rfl
        have hds := digits_size (show a0 + 1 < 100 by omega)
        have hes : errs.size = 4 := rfl
        have hts : e.text.size < 4611686018427387904 := by rw [htx, ByteArray.size_append, ByteArray.size_append]; omega
        have hA : e.has ((a0 : Int) + 1) = true := by rw [← he, chainE_has]; simp
        have hB : e.has ((b0 : Int) + 1) = (a0 == b0) := by rw [← he, chainE_has, Bool.eq_iff_iff]; simp; omega
        rw [he] at HCH
        clear he
        have c4 : ¬ 9223372036854775807 < (ahead l).size + (errs.size + (digits (a0 + 1)).size) := by omega
        have HT := hid (fun w => errno_text (a0 + 1) (by omega) w)
        rw [show ((a0 + 1 : Nat) : Int) = (a0 : Int) + 1 from rfl] at HT
        have e2 := eqStr (ahead l ++ (errs ++ digits (a0 + 1)))
        clear hig hi hds hes
        by_cases hab : a0 = b0
        · subst hab
          rw [show (a0 == a0) = true from beq_self_eq_true _] at hB
          go_wp2_with (first
            | (go_at_call 8; (with_reducible refine (HCH.out _ hu).mono ?_); rintro r w1 ⟨u1, rfl, hu1, hE1⟩; have HE1 := hid hE1; clear hE1; have HG1 := hid (HG.out.up (hu.trans hu1)))
            | (go_at_call 9; (with_reducible refine (code_any HE1.out HG1.out).mono ?_); rintro r w4 ⟨rfl, hu4⟩; rw [hfst]; have HE4 := hid (HE1.out.up hu4))
            | (go_at_call 10; (with_reducible refine (text_any HE4.out hch hts).mono ?_); rintro r w5 ⟨rfl, hu5⟩; rw [htx]; have HE5 := hid (HE4.out.up hu5))
            | (go_at_call 11; (with_reducible refine (HT.out _).mono ?_); rintro r w' ⟨rfl, rfl⟩)
            | (go_at_call 12; (first
                | ((with_reducible refine (fis_any ((a0 : Int) + 1) HE5.out).mono ?_); rintro r w6 ⟨rfl, hu6⟩; rw [hA]; have HE6 := hid (HE5.out.up hu6))
                | ((with_reducible refine (fis_any ((a0 : Int) + 1) HE6.out).mono ?_); rintro r w7 ⟨rfl, hu7⟩; rw [hB]; have HE7 := hid (HE6.out.up hu7))))
            | (go_at_call 13; (with_reducible refine (ops_any HE7.out (by rw [hops]; omega)).mono ?_); rintro r w8 ⟨sO, rfl, hu8, hsO⟩; rw [hops] at hsO; have hst := Strs.own hsO; clear hsO; obtain ⟨p2, cap2, rfl, hc2⟩ := hst; have hst : Strs w8 (.slice p2 l.length cap2) l := ⟨p2, cap2, rfl, hc2⟩; clear hc2))
          have hu8w := ((((hu.trans hu1).trans hu4).trans hu5).trans hu6).trans (hu7.trans hu8)
          clear hu1 hu4 hu5 hu6 hu7 hu8 hu
          have hc2 : ∀ i, i < l.length → ∃ a, p2 = some a ∧ w8.cell? (a.add i) = some (.string (nth l i)) := by
            obtain ⟨p3, cap3, he3, hc3⟩ := hst
            cases he3
            exact hc3
          clear hst
          have HC2 := hid hc2
          clear hc2
          try go_wp2_with fail
          go_loopg [12] l.length (fun g ti wr => ∃ i : Nat, i ≤ l.length ∧ l.length - i ≤ g ∧ ti = .int .i64 (i : Nat) ∧ Up w8 wr)
          case atStart => exact ⟨0, Nat.zero_le _, Nat.le_refl _, rfl, Up.refl _⟩
          case round =>
            obtain ⟨i, hi, hig, rfl, hu9⟩ := hrel
            by_cases hlt : i < l.length
            · obtain ⟨a1, rfl, hcell1⟩ := HC.out i hlt
              obtain ⟨a2, rfl, hcell2⟩ := HC2.out i hlt
              have hcell1' := (hu8w.trans hu9).cellEq hcell1
              have hcell2' := hu9.cellEq hcell2
              have e1 : IntKind.i64.wrap ((i : Int) + 1) = (i : Int) + 1 := IntWalk.i64_in _ (by omega)
              go_wp2_with fail
              go_quiet (fail)
              go_wp2_with fail
              go_roundg (l.length - (i + 1))
              case measure => omega
              case rel => exact ⟨i + 1, hlt, Nat.le_refl _, rfl, hu9.trans ⟨rfl, rfl, rfl, Nat.le_refl _, fun _ _ => rfl⟩⟩
            · obtain rfl : i = l.length := by omega
              go_wp2_with fail
              go_ret
              exact ⟨rfl, hu8w.trans hu9⟩
        · rw [show (a0 == b0) = false from by rw [beq_eq_false_iff_ne]; exact hab] at hB
          go_wp2_with (first
            | (go_at_call 8; (with_reducible refine (HCH.out _ hu).mono ?_); rintro r w1 ⟨u1, rfl, hu1, hE1⟩; have HE1 := hid hE1; clear hE1; have HG1 := hid (HG.out.up (hu.trans hu1)))
            | (go_at_call 9; (with_reducible refine (code_any HE1.out HG1.out).mono ?_); rintro r w4 ⟨rfl, hu4⟩; rw [hfst]; have HE4 := hid (HE1.out.up hu4))
            | (go_at_call 10; (with_reducible refine (text_any HE4.out hch hts).mono ?_); rintro r w5 ⟨rfl, hu5⟩; rw [htx]; have HE5 := hid (HE4.out.up hu5))
            | (go_at_call 11; (with_reducible refine (HT.out _).mono ?_); rintro r w' ⟨rfl, rfl⟩)
            | (go_at_call 12; (first
                | ((with_reducible refine (fis_any ((a0 : Int) + 1) HE5.out).mono ?_); rintro r w6 ⟨rfl, hu6⟩; rw [hA]; have HE6 := hid (HE5.out.up hu6))
                | ((with_reducible refine (fis_any ((b0 : Int) + 1) HE6.out).mono ?_); rintro r w7 ⟨rfl, hu7⟩; rw [hB]; have HE7 := hid (HE6.out.up hu7))))
            | (go_at_call 13; (with_reducible refine (ops_any HE7.out (by rw [hops]; omega)).mono ?_); rintro r w8 ⟨sO, rfl, hu8, hsO⟩; rw [hops] at hsO; have hst := Strs.own hsO; clear hsO; obtain ⟨p2, cap2, rfl, hc2⟩ := hst; have hst : Strs w8 (.slice p2 l.length cap2) l := ⟨p2, cap2, rfl, hc2⟩; clear hc2))
          have hu8w := ((((hu.trans hu1).trans hu4).trans hu5).trans hu6).trans (hu7.trans hu8)
          clear hu1 hu4 hu5 hu6 hu7 hu8 hu
          have hc2 : ∀ i, i < l.length → ∃ a, p2 = some a ∧ w8.cell? (a.add i) = some (.string (nth l i)) := by
            obtain ⟨p3, cap3, he3, hc3⟩ := hst
            cases he3
            exact hc3
          clear hst
          have HC2 := hid hc2
          clear hc2
          try go_wp2_with fail
          go_loopg [12] l.length (fun g ti wr => ∃ i : Nat, i ≤ l.length ∧ l.length - i ≤ g ∧ ti = .int .i64 (i : Nat) ∧ Up w8 wr)
          case atStart => exact ⟨0, Nat.zero_le _, Nat.le_refl _, rfl, Up.refl _⟩
          case round =>
            obtain ⟨i, hi, hig, rfl, hu9⟩ := hrel
            by_cases hlt : i < l.length
            · obtain ⟨a1, rfl, hcell1⟩ := HC.out i hlt
              obtain ⟨a2, rfl, hcell2⟩ := HC2.out i hlt
              have hcell1' := (hu8w.trans hu9).cellEq hcell1
              have hcell2' := hu9.cellEq hcell2
              have e1 : IntKind.i64.wrap ((i : Int) + 1) = (i : Int) + 1 := IntWalk.i64_in _ (by omega)
              go_wp2_with fail
              go_quiet (fail)
              go_wp2_with fail
              go_roundg (l.length - (i + 1))
              case measure => omega
              case rel => exact ⟨i + 1, hlt, Nat.le_refl _, rfl, hu9.trans ⟨rfl, rfl, rfl, Nat.le_refl _, fun _ _ => rfl⟩⟩
            · obtain rfl : i = l.length := by omega
              go_wp2_with fail
              go_ret
              exact ⟨rfl, hu8w.trans hu9⟩
end Go.Proofs.YtkhcegpmgejblaaDoor
