/-
  FaultJoins: of joined errors each is found, the first one's number is told, and its ops.
-/
import Derived.Test.YtkhcegpmgejblaaDoorEChain
import Derived.Test.YtkhcegpmgejblaaDoorEJoin4
import Derived.Deep.QuietTactic
import Derived.BigQuiet
namespace Go.Proofs.YtkhcegpmgejblaaDoor
open Go Go.RowKit
set_option maxRecDepth 100000
set_option maxRecDepth 100000

theorem Strs.cells {w : World} {p : Option Addr} {n cap : Nat} {l : List ByteArray} (h : Strs w (.slice p n cap) l) : n = l.length ∧ ∀ i, i < l.length → ∃ a, p = some a ∧ w.cell? (a.add i) = some (.string (nth l i)) := by
  obtain ⟨p3, cap3, he3, hc3⟩ := h
  cases he3
  exact ⟨rfl, hc3⟩
theorem eqStr' (s : ByteArray) (w : World) : (binOp .neq 9 (.string s) (.string s)).run Tryd.prog w = .ok (.bool false) w := by
  simp [go_sem]
theorem nth_zero (op : ByteArray) (l : List ByteArray) : nth (op :: l) 0 = op := rfl
theorem nth_succ (op : ByteArray) (l : List ByteArray) (i : Nat) : nth (op :: l) (i + 1) = nth l i := rfl
set_option maxHeartbeats 8000000 in
theorem joins_w {w : World} {va vb : Value} {la lb : List ByteArray} {op : ByteArray} (n m : Nat) (hn : n < 256) (hm : m < 256) (hg : Glob w) (hsa : Strs w va la) (hsb : Strs w vb lb) :
    Calls Tryd.prog 4 #[va, vb, .int .u8 (n : Nat), .int .u8 (m : Nat), .string op] w fun r w' => r = .returned (.bool true) ∧ Up w w' := by
  have HG := hid hg
  have HA := hid hsa
  have HB := hid hsb
  have HK := hid (known_true hg)
  obtain ⟨p, cap, rfl, hc⟩ := hsa
  obtain ⟨pb, capb, rfl, hcb⟩ := hsb
  clear hcb hg
  by_cases h10 : 10 < la.length
  · clear hc
    go_enter Tryd.func4, Tryd.ntmps4
    go_wp2_with (first | (go_at_call 7; (with_reducible refine (HK.out).mono ?_); rintro r wK ⟨rfl, huK⟩))
    go_ret
    exact ⟨rfl, huK⟩
  by_cases h11 : 10 < lb.length
  · clear hc
    go_enter Tryd.func4, Tryd.ntmps4
    go_wp2_with (first | (go_at_call 7; (with_reducible refine (HK.out).mono ?_); rintro r wK ⟨rfl, huK⟩))
    go_ret
    exact ⟨rfl, huK⟩
  have HC := hid hc
  clear hc
  obtain ⟨a0, ha0⟩ : ∃ r, n % 60 = r := ⟨_, rfl⟩
  obtain ⟨b0, hb0⟩ : ∃ r, m % 60 = r := ⟨_, rfl⟩
  have ra : (n : Int).tmod 60 = (a0 : Nat) := by rw [show (60 : Int) = ((60 : Nat) : Int) from rfl, ← Int.ofNat_tmod, ha0]
  have rb : (m : Int).tmod 60 = (b0 : Nat) := by rw [show (60 : Int) = ((60 : Nat) : Int) from rfl, ← Int.ofNat_tmod, hb0]
  have ha1 : a0 < 60 := by omega
  have hb1 : b0 < 60 := by omega
  have HCA : Hid (∀ w', Up w w' → Calls Tryd.prog 8 #[.slice p la.length cap, .int .u8 (n : Nat)] w' fun r w'' => ∃ t u, r = .returned (.iface t u) ∧ Up w' w'' ∧ IsEr w'' (.iface t u) (chainE ((a0 : Int) + 1) la)) := hid fun w' hu => by
    have := chain_any n (by omega) (HA.out.up hu)
    rw [ha0] at this
    refine this.mono ?_
    rintro r w'' ⟨u, rfl, h1, h2⟩
    obtain ⟨t, x, rfl⟩ := h2.iface
    exact ⟨t, x, rfl, h1, h2⟩
  have HCB : Hid (∀ w', Up w w' → Calls Tryd.prog 8 #[.slice pb lb.length capb, .int .u8 (m : Nat)] w' fun r w'' => ∃ t u, r = .returned (.iface t u) ∧ Up w' w'' ∧ IsEr w'' (.iface t u) (chainE ((b0 : Int) + 1) lb)) := hid fun w' hu => by
    have := chain_any m (by omega) (HB.out.up hu)
    rw [hb0] at this
    refine this.mono ?_
    rintro r w'' ⟨u, rfl, h1, h2⟩
    obtain ⟨t, x, rfl⟩ := h2.iface
    exact ⟨t, x, rfl, h1, h2⟩
  clear ha0 hb0 hn hm
  obtain ⟨ex, hex⟩ : ∃ e, chainE ((a0 : Int) + 1) la = e := ⟨_, rfl⟩
  obtain ⟨ey, hey⟩ : ∃ e, chainE ((b0 : Int) + 1) lb = e := ⟨_, rfl⟩
  have hfst : (Er.flt op (.two ex ey)).first = some ((a0 : Int) + 1) := by
    show (ex.first <|> ey.first) = _
    rw [← hex, chainE_first]; rfl
  have hopj : (Er.two ex ey).ops = la := by show ex.ops = _; rw [← hex]; exact chainE_ops _ _
  have hope : (Er.flt op (.two ex ey)).ops = op :: la := by show op :: (Er.two ex ey).ops = _; rw [hopj]
  have hha : (Er.flt op (.two ex ey)).has ((a0 : Int) + 1) = true := by
    show (ex.has _ || ey.has _) = true
    rw [← hex, chainE_has]; simp
  have hhb : (Er.flt op (.two ex ey)).has ((b0 : Int) + 1) = true := by
    show (ex.has _ || ey.has _) = true
    rw [← hey, chainE_has]; simp
  rw [hex] at HCA
  rw [hey] at HCB
  clear hex hey
  go_enter Tryd.func4, Tryd.ntmps4
  go_wp2_with (first
    | (go_at_call 7; (with_reducible refine (HK.out).mono ?_); rintro r wK ⟨rfl, huK⟩)
    | (go_at_call 8; (first
        | ((with_reducible refine (HCA.out _ huK).mono ?_); rintro r w1 ⟨t1, u1, rfl, hu1, hE1⟩; have HE1 := hid hE1; clear hE1)
        | ((with_reducible refine (HCB.out _ (huK.trans hu1)).mono ?_); rintro r w2 ⟨t2, u2, rfl, hu2, hE2⟩; have HX := hid (HE1.out.up hu2); have HY := hid hE2; clear hE2)))
    | (go_at_call 14; (first
        | ((with_reducible refine (fjoin_four (Blk.new _ _ rfl) rfl rfl rfl rfl (HX.out.up (Up.alloc _ _)) (HY.out.up (Up.alloc _ _))).mono ?_); rintro r w3 ⟨u3, rfl, hu3, hE3⟩; have HJ := hid hE3; clear hE3)))
    | (go_at_call 15; (with_reducible refine (wrap_any (op := op) HJ.out).mono ?_); rintro r w4 ⟨u4, rfl, hu4, hE4⟩; have HE := hid hE4; have HJ4 := hid (HJ.out.up hu4); clear hE4; have HGE := hid (HG.out.up (((huK.trans hu1).trans hu2).trans (((Up.alloc _ _).trans hu3).trans hu4))))
    | (go_at_call 13; (first
        | ((with_reducible refine (ops_any HJ4.out (by rw [hopj]; omega)).mono ?_); rintro r w5 ⟨sO, rfl, hu5, hsO⟩; rw [hopj] at hsO; have hst := Strs.own hsO; clear hsO; have HE5 := hid (HE.out.up hu5); have HG5 := hid (HGE.out.up hu5); obtain ⟨po, capo, rfl, hco⟩ := hst; have HO := hid hco; clear hco)
        | ((with_reducible refine (ops_any HE5.out (by rw [hope, List.length_cons]; omega)).mono ?_); rintro r w6 ⟨sP, rfl, hu6, hsP⟩; rw [hope] at hsP; have hst := Strs.own hsP; clear hsP; have HE6 := hid (HE5.out.up hu6); have HG6 := hid (HG5.out.up hu6); obtain ⟨pp, capp, rfl, hcp⟩ := hst; rw [List.length_cons] at hcp ⊢; have HP := hid hcp; obtain ⟨ap, rfl, hp0⟩ := hcp 0 (Nat.succ_pos _); rw [nth_zero] at hp0; replace hp0 : w6.cell? ap = some (.string op) := (by rw [Addr.add_zero'] at hp0; exact hp0); clear hcp)))
    | (go_at_call 9; (with_reducible refine (code_any HE6.out HG6.out).mono ?_); rintro r w7 ⟨rfl, hu7⟩; rw [hfst]; have HE7 := hid (HE6.out.up hu7))
    | (go_at_call 12; (first
        | ((with_reducible refine (fis_any ((a0 : Int) + 1) HE7.out).mono ?_); rintro r w8 ⟨rfl, hu8⟩; rw [hha]; have HE8 := hid (HE7.out.up hu8))
        | ((with_reducible refine (fis_any ((b0 : Int) + 1) HE8.out).mono ?_); rintro r w9 ⟨rfl, hu9⟩; rw [hhb]; have hp9 := (((Up.refl _).trans hu7).trans (hu8.trans hu9)).cellEq hp0))))
  have hu9w := (((huK.trans hu1).trans hu2).trans (((Up.alloc _ _).trans hu3).trans hu4)).trans ((((hu5.trans hu6).trans hu7).trans hu8).trans hu9)
  have HC9 : Hid (∀ i, i < la.length → ∃ a, p = some a ∧ w9.cell? (a.add i) = some (.string (nth la i))) := hid fun i hi => by
    obtain ⟨a, e, h⟩ := HC.out i hi
    exact ⟨a, e, hu9w.cellEq h⟩
  have HO9 : Hid (∀ i, i < la.length → ∃ a, po = some a ∧ w9.cell? (a.add i) = some (.string (nth la i))) := hid fun i hi => by
    obtain ⟨a, e, h⟩ := HO.out i hi
    exact ⟨a, e, (((hu6.trans hu7).trans hu8).trans hu9).cellEq h⟩
  have HP9 : Hid (∀ i, i < la.length → w9.cell? (ap.add (i + 1)) = some (.string (nth la i))) := hid fun i hi => by
    obtain ⟨a, e, h⟩ := HP.out (i + 1) (Nat.succ_lt_succ hi)
    obtain rfl := Option.some.inj e
    exact ((hu7.trans hu8).trans hu9).cellEq h
  clear HC HO HP HA HB HCA HCB HE1 HX HY HJ HE HJ4 HGE HE5 HG5 HE6 HG6 HE7 HE8 HK HG hp9 hp0 hfst hopj hope hha hhb
  go_loopg [17] la.length (fun g ti wr => ∃ i : Nat, i ≤ la.length ∧ la.length - i ≤ g ∧ ti = .int .i64 (i : Nat) ∧ Up w9 wr)
  case atStart => exact ⟨0, Nat.zero_le _, Nat.le_refl _, rfl, Up.refl _⟩
  case round =>
    obtain ⟨i, hi, hig, rfl, hur⟩ := hrel
    by_cases hlt : i < la.length
    · obtain ⟨a1, rfl, hcell1⟩ := HC9.out i hlt
      obtain ⟨a2, rfl, hcell2⟩ := HO9.out i hlt
      have hcell3 := hur.cellEq (HP9.out i hlt)
      replace hcell3 : wr.cell? ⟨ap.block, ap.off + (i + 1), none⟩ = some (.string (nth la i)) := by simpa [Addr.add] using hcell3
      have hcell1' := hur.cellEq hcell1
      have hcell2' := hur.cellEq hcell2
      have e1 : IntKind.i64.wrap ((i : Int) + 1) = (i : Int) + 1 := IntWalk.i64_in _ (by omega)
      have e2 : ((i : Int) + 1).toNat = i + 1 := by omega
      have eS := eqStr' (nth la i)
      have b0 : (0 : Int) ≤ (i : Int) + 1 := by omega
      have b1 : (i : Int) + 1 < (la.length : Int) + 1 := by omega
      have b2 : (i : Int) < (la.length : Int) := by omega
      have b3 : (i : Int) + 1 < ((la.length + 1 : Nat) : Int) := by omega
      go_wp2_with fail
      go_quiet (fail)
      go_wp2_with fail
      go_roundg (la.length - (i + 1))
      case measure => omega
      case rel => exact ⟨i + 1, hlt, Nat.le_refl _, rfl, hur.trans ⟨rfl, rfl, rfl, Nat.le_refl _, fun _ _ => rfl⟩⟩
    · obtain rfl : i = la.length := by omega
      go_wp2_with (first
        | (go_at_call 14; (first
            | ((with_reducible refine (fjoin_of (join_none _)).mono ?_); rintro r wA ⟨rfl, huA⟩)
            | ((with_reducible refine (fjoin_of (join_nils (Blk.new _ _ rfl) rfl rfl)).mono ?_); rintro r wB ⟨rfl, huB⟩)
            | ((with_reducible refine (fjoin_of (join_nil (Blk.new _ _ rfl) rfl)).mono ?_); rintro r wC ⟨rfl, huC⟩)))
        | (go_at_call 13; (with_reducible refine (ops_nil _).mono ?_); rintro r wD ⟨rfl, huD⟩))
      go_ret
      exact ⟨rfl, ((hu9w.trans hur).trans (huA.trans ((Up.alloc _ _).trans huB))).trans (((Up.alloc _ _).trans huC).trans huD)⟩
end Go.Proofs.YtkhcegpmgejblaaDoor
