/-
  FaultDeep: a fault that stands in others, joined or not, is found by its own number alone.
-/
import Derived.Test.YtkhcegpmgejblaaDoorEKnown
import Derived.Test.YtkhcegpmgejblaaDoorEJoin
namespace Go.Proofs.YtkhcegpmgejblaaDoor
open Go Go.RowKit
set_option maxRecDepth 100000
set_option maxRecDepth 100000

theorem fjoin_two {g : Nat} {C : Array Value} {t1 t2 : TypeId} {v1 v2 : Value} {x y : Er} {w : World} (hC : Blk w g 25 C) (h0 : C[0]? = some (.iface t1 v1)) (h1 : C[1]? = some (.iface t2 v2)) (hX : IsEr w (.iface t1 v1) x) (hY : IsEr w (.iface t2 v2) y) :
    Calls Tryd.prog 14 #[.slice (some ⟨g, 0, none⟩) 2 2] w fun r w' => ∃ u, r = .returned u ∧ Up w w' ∧ IsEr w' u (.two x y) := by
  have H := hid (join_two hC h0 h1 hX hY)
  clear hC h0 h1 hX hY
  go_enter Tryd.func14, Tryd.ntmps14
  go_wp2_with (first | (go_at_call 24; (with_reducible refine (H.out).mono ?_); rintro r w' ⟨u, rfl, hu, hE⟩))
  go_ret
  exact ⟨_, rfl, hu, hE⟩
def deep (op : ByteArray) (a b : Int) : Nat → Er
  | 0 => .flt op (.num a)
  | k + 1 => .flt op (.two (deep op a b k) (.num b))
theorem deep_first (op : ByteArray) (a b : Int) (k : Nat) : (deep op a b k).first = some a := by
  induction k with
  | zero => rfl
  | succ k ih => show ((deep op a b k).first <|> _) = _; rw [ih]; rfl
theorem deep_ops (op : ByteArray) (a b : Int) (k : Nat) : (deep op a b k).ops.length = k + 1 := by
  induction k with
  | zero => rfl
  | succ k ih => show (deep op a b k).ops.length + 1 = _; rw [ih]
theorem deep_has (op : ByteArray) (a b : Int) (k : Nat) (n : Int) : (deep op a b k).has n = (a == n || (decide (0 < k) && b == n)) := by
  induction k with
  | zero => simp [deep, Er.has]
  | succ k ih =>
    show ((deep op a b k).has n || b == n) = _
    rw [ih]
    cases h1 : a == n <;> cases h2 : b == n <;> simp
theorem own_some {w : World} {base : Nat} {t : TypeId} {s : Value} {k : Nat} {l : List Value} (h : w.ownsRow base t 1 s (k + 1) l) : ∃ g cap, s = .slice (some ⟨g, 0, none⟩) (k + 1) cap := by
  obtain ⟨_, h0 | ⟨g, cap, cur, rfl, _⟩⟩ := h
  · exact absurd h0.2 (by omega)
  · exact ⟨g, cap, rfl⟩
set_option maxHeartbeats 8000000 in
theorem deep_w {op : ByteArray} {w : World} (n m k : Nat) (hn : n < 256) (hm : m < 256) (hk : k < 256) (hg : Glob w) (hs : op.size < 2305843009213693952) :
    Calls Tryd.prog 6 #[.string op, .int .u8 (n : Nat), .int .u8 (m : Nat), .int .u8 (k : Nat)] w fun r w' => r = .returned (.bool true) ∧ Up w w' := by
  have HG := hid hg
  have HK := hid (known_true hg)
  by_cases h60 : 60 < op.size
  · go_enter Tryd.func6, Tryd.ntmps6
    go_wp2_with (first | (go_at_call 7; (with_reducible refine (HK.out).mono ?_); rintro r wK ⟨rfl, huK⟩))
    go_ret
    exact ⟨rfl, huK⟩
  · obtain ⟨a0, ha0⟩ : ∃ r, n % 60 = r := ⟨_, rfl⟩
    obtain ⟨b0, hb0⟩ : ∃ r, m % 60 = r := ⟨_, rfl⟩
    obtain ⟨K, hK⟩ : ∃ r, k % 10 = r := ⟨_, rfl⟩
    have ra : (n : Int).tmod 60 = (a0 : Nat) := by rw [show (60 : Int) = ((60 : Nat) : Int) from rfl, ← Int.ofNat_tmod, ha0]
    have rb : (m : Int).tmod 60 = (b0 : Nat) := by rw [show (60 : Int) = ((60 : Nat) : Int) from rfl, ← Int.ofNat_tmod, hb0]
    have rk : (k : Int).tmod 10 = (K : Nat) := by rw [show (10 : Int) = ((10 : Nat) : Int) from rfl, ← Int.ofNat_tmod, hK]
    have la : a0 < 60 := by omega
    have lb : b0 < 60 := by omega
    have lk : K < 10 := by omega
    clear ha0 hb0 hK hg
    go_enter Tryd.func6, Tryd.ntmps6
    have NA : Hid (∀ w : World, IsEr w (.iface 27 (.int .i64 ((a0 : Int) + 1))) (.num ((a0 : Int) + 1))) := hid fun _ => rfl
    have NB : Hid (∀ w : World, IsEr w (.iface 27 (.int .i64 ((b0 : Int) + 1))) (.num ((b0 : Int) + 1))) := hid fun _ => rfl
    go_wp2_with (first | (go_at_call 7; (with_reducible refine (HK.out).mono ?_); rintro r wK ⟨rfl, huK⟩) | (go_at_call 15; (with_reducible refine (wrap_any (op := op) (NA.out _)).mono ?_); rintro r w1 ⟨u1, rfl, hu1, hE1⟩))
    have hu1w := huK.trans hu1
    go_loopg [11, 12] K (fun g te ti wr => ∃ i : Nat, i ≤ K ∧ K - i ≤ g ∧ ti = .int .i64 (i : Nat) ∧ IsEr wr te (deep op ((a0 : Int) + 1) ((b0 : Int) + 1) i) ∧ Up w wr)
    case atStart => exact ⟨0, Nat.zero_le _, Nat.le_refl _, rfl, hE1, hu1w⟩
    case round =>
      clear hE1 hu1 huK hu1w
      obtain ⟨i, hi, hig, rfl, hE, hu⟩ := hrel
      have e1 : IntKind.i64.wrap ((i : Int) + 1) = (i : Int) + 1 := IntWalk.i64_in _ (by omega)
      have e2 : IntKind.i64.wrap (K : Int) = (K : Nat) := IntWalk.i64_in _ (by omega)
      obtain ⟨te, ue, rfl⟩ := hE.iface
      have HE := hid hE
      clear hE
      by_cases hlt : i < K
      · go_wp2_with (first
          | (go_at_call 14; (with_reducible refine (fjoin_two (Blk.new _ _ rfl) rfl rfl (HE.out.up (Up.alloc _ _)) (NB.out _)).mono ?_); rintro r w2 ⟨u2, rfl, hu2, hE2⟩; have H2 := hid hE2; clear hE2)
          | (go_at_call 15; (with_reducible refine (wrap_any (op := op) H2.out).mono ?_); rintro r w3 ⟨u3, rfl, hu3, hE3⟩))
        go_roundg (K - (i + 1))
        case measure => omega
        case rel => exact ⟨i + 1, by omega, Nat.le_refl _, rfl, hE3, ((hu.trans (Up.alloc _ _)).trans hu2).trans hu3⟩
      · obtain rfl : K = i := by omega
        clear hlt
        have hcA := hid (HG.out.up hu)
        have hfst := deep_first op ((a0 : Int) + 1) ((b0 : Int) + 1) K
        have hopn := deep_ops op ((a0 : Int) + 1) ((b0 : Int) + 1) K
        have hhas := deep_has op ((a0 : Int) + 1) ((b0 : Int) + 1) K
        have hA : (deep op ((a0 : Int) + 1) ((b0 : Int) + 1) K).has ((a0 : Int) + 1) = true := by rw [hhas]; simp
        have hN : (deep op ((a0 : Int) + 1) ((b0 : Int) + 1) K).has 99 = false := by
          rw [hhas]
          have x1 : ((a0 : Int) + 1 == 99) = false := by rw [beq_eq_false_iff_ne]; omega
          have x2 : ((b0 : Int) + 1 == 99) = false := by rw [beq_eq_false_iff_ne]; omega
          rw [x1, x2]; simp
        have hB : (deep op ((a0 : Int) + 1) ((b0 : Int) + 1) K).has ((b0 : Int) + 1) = decide (0 < K ∨ a0 = b0) := by
          rw [hhas, Bool.eq_iff_iff]
          simp
          omega
        clear hhas
        by_cases hK : K = 0
        · by_cases hab : a0 = b0
          · rw [show decide (0 < K ∨ a0 = b0) = true from decide_eq_true (Or.inr hab)] at hB
            subst hab
            go_wp2_with (first
              | (go_at_call 9; (with_reducible refine (code_any HE.out hcA.out).mono ?_); rintro r w4 ⟨rfl, hu4⟩; rw [hfst]; have HE4 := hid (HE.out.up hu4))
              | (go_at_call 12; (first
                  | ((with_reducible refine (fis_any ((a0 : Int) + 1) HE4.out).mono ?_); rintro r w5 ⟨rfl, hu5⟩; rw [hA]; have HE5 := hid (HE4.out.up hu5))
                  | ((with_reducible refine (fis_any ((a0 : Int) + 1) HE6.out).mono ?_); rintro r w7 ⟨rfl, hu7⟩; rw [hB]; have HE7 := hid (HE6.out.up hu7))
                  | ((with_reducible refine (fis_any 99 HE7.out).mono ?_); rintro r w8 ⟨rfl, hu8⟩; rw [hN])))
              | (go_at_call 13; (with_reducible refine (ops_any HE5.out (by rw [hopn]; omega)).mono ?_); rintro r w6 ⟨sO, rfl, hu6, hsO⟩; rw [hopn] at hsO; obtain ⟨go, co, rfl⟩ := own_some hsO; clear hsO; have HE6 := hid (HE5.out.up hu6)))
            go_ret
            exact ⟨rfl, ((((hu.trans hu4).trans hu5).trans hu6).trans hu7).trans hu8⟩
          · rw [show decide (0 < K ∨ a0 = b0) = false from decide_eq_false (by omega)] at hB
            go_wp2_with (first
              | (go_at_call 9; (with_reducible refine (code_any HE.out hcA.out).mono ?_); rintro r w4 ⟨rfl, hu4⟩; rw [hfst]; have HE4 := hid (HE.out.up hu4))
              | (go_at_call 12; (first
                  | ((with_reducible refine (fis_any ((a0 : Int) + 1) HE4.out).mono ?_); rintro r w5 ⟨rfl, hu5⟩; rw [hA]; have HE5 := hid (HE4.out.up hu5))
                  | ((with_reducible refine (fis_any ((b0 : Int) + 1) HE6.out).mono ?_); rintro r w7 ⟨rfl, hu7⟩; rw [hB]; have HE7 := hid (HE6.out.up hu7))
                  | ((with_reducible refine (fis_any 99 HE7.out).mono ?_); rintro r w8 ⟨rfl, hu8⟩; rw [hN])))
              | (go_at_call 13; (with_reducible refine (ops_any HE5.out (by rw [hopn]; omega)).mono ?_); rintro r w6 ⟨sO, rfl, hu6, hsO⟩; rw [hopn] at hsO; obtain ⟨go, co, rfl⟩ := own_some hsO; clear hsO; have HE6 := hid (HE5.out.up hu6)))
            go_ret
            have hx : ((a0 : Int) == (b0 : Int)) = false := by rw [beq_eq_false_iff_ne]; omega
            exact ⟨by show Ending.returned (Value.bool (!((a0 : Int) == (b0 : Int)))) = _; rw [hx]; rfl, ((((hu.trans hu4).trans hu5).trans hu6).trans hu7).trans hu8⟩
        · rw [show decide (0 < K ∨ a0 = b0) = true from decide_eq_true (Or.inl (by omega))] at hB
          go_wp2_with (first
            | (go_at_call 9; (with_reducible refine (code_any HE.out hcA.out).mono ?_); rintro r w4 ⟨rfl, hu4⟩; rw [hfst]; have HE4 := hid (HE.out.up hu4))
            | (go_at_call 12; (first
                | ((with_reducible refine (fis_any ((a0 : Int) + 1) HE4.out).mono ?_); rintro r w5 ⟨rfl, hu5⟩; rw [hA]; have HE5 := hid (HE4.out.up hu5))
                | ((with_reducible refine (fis_any ((b0 : Int) + 1) HE6.out).mono ?_); rintro r w7 ⟨rfl, hu7⟩; rw [hB]; have HE7 := hid (HE6.out.up hu7))
                | ((with_reducible refine (fis_any 99 HE7.out).mono ?_); rintro r w8 ⟨rfl, hu8⟩; rw [hN])))
            | (go_at_call 13; (with_reducible refine (ops_any HE5.out (by rw [hopn]; omega)).mono ?_); rintro r w6 ⟨sO, rfl, hu6, hsO⟩; rw [hopn] at hsO; obtain ⟨go, co, rfl⟩ := own_some hsO; clear hsO; have HE6 := hid (HE5.out.up hu6)))
          go_ret
          exact ⟨rfl, ((((hu.trans hu4).trans hu5).trans hu6).trans hu7).trans hu8⟩
end Go.Proofs.YtkhcegpmgejblaaDoor
