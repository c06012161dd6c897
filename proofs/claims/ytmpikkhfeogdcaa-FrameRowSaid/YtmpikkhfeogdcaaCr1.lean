/-
  Checksums: a step, a byte more.
-/
import Derived.Test.YtmpikkhfeogdcaaProg
import Derived.Test.YtmpikkhfeogdcaaUp
import Derived.Test.YtmpikkhfeogdcaaCr0
import Derived.WalkKit
import Derived.WalkSpells
import Derived.WalkLawsBesides
import Derived.Laws.BitsAllLaws
import Derived.Deep.LoopGhost
namespace Go.Proofs.Ytmpikkhfeogdcaa
open Go Go.RowKit
set_option maxRecDepth 100000

theorem hid {p : Prop} (h : p) : Hid p := h
theorem crS_hi {s : Nat} (hs : s < 65536) (h : 32768 ≤ s) : bits BinOp.xor IntKind.u16 (IntKind.u16.wrap ((s : Int) * 2)) 4129 = ((crS s : Nat) : Int) := by
  have e : IntKind.u16.wrap ((s : Int) * 2) = ((2 * s - 65536 : Nat) : Int) := by rw [IntKind.wrap_u16]; omega
  rw [e, show (4129 : Int) = ((4129 : Nat) : Int) from rfl, u16_xor_nat _ _ (by omega) (by omega)]
  unfold crS
  rw [if_pos h]
theorem crS_lo {s : Nat} (h : ¬ 32768 ≤ s) : (s : Int) * 2 = ((crS s : Nat) : Int) := by
  unfold crS
  rw [if_neg h]
  omega
theorem crX {s b : Nat} (hs : s < 65536) (hb : b < 256) : bits BinOp.xor IntKind.u16 (s : Int) ((b : Int) * 256) = ((s ^^^ (b * 256) : Nat) : Int) := by
  have e : (b : Int) * 256 = ((b * 256 : Nat) : Int) := by omega
  rw [e, u16_xor_nat _ _ hs (by omega)]
theorem moved_any (s : Nat) (hs : s < 65536) (w : World) : Calls Try.prog 23 #[.int .u16 (s : Nat)] w fun e w' => e = .returned (.int .u16 (crS s : Nat)) ∧ w' = w := by
  by_cases h : 32768 ≤ s
  · have e := hid (crS_hi hs h)
    generalize crS s = y at *
    go_enter Try.func23, Try.ntmps23
    go_wp2
    go_ret
    exact ⟨by rw [e.out]; rfl, rfl⟩
  · have e := hid (crS_lo h)
    generalize crS s = y at *
    go_enter Try.func23, Try.ntmps23
    go_wp2
    go_ret
    exact ⟨by rw [e.out]; rfl, rfl⟩
theorem more_any (s b : Nat) (hs : s < 65536) (hb : b < 256) (w : World) : Calls Try.prog 20 #[.int .u16 (s : Nat), .int .u8 (b : Nat)] w fun e w' => e = .returned (.int .u16 (crM s b : Nat)) ∧ w' = w := by
  have e := crX hs hb
  have hX := xor_lt16 hs (b := b * 256) (by omega)
  unfold crM
  generalize s ^^^ (b * 256) = x at *
  go_enter Try.func20, Try.ntmps20
  go_wp2
  clear e
  go_loopg [0, 10] 8 (fun g ts ti wr => ∃ k s1 : Nat, k ≤ 8 ∧ 8 - k ≤ g ∧ ti = .int .i64 (k : Nat) ∧ ts = .int .u16 (s1 : Nat) ∧ s1 < 65536 ∧ Hid (crI (8 - k) s1 = crI 8 x) ∧ wr = w)
  case atStart => exact ⟨0, x, by omega, by omega, rfl, rfl, hX, hid rfl, rfl⟩
  case round =>
    obtain ⟨k, s1, hk, hkg, rfl, rfl, h1, HE, rfl⟩ := hrel
    by_cases hlt : k < 8
    · have HM := hid (moved_any s1 h1)
      go_wp2_with (first | (go_at_call 23; refine (HM.out _).mono ?_; rintro e w' ⟨rfl, rfl⟩))
      go_roundg (8 - (k + 1))
      case measure => omega
      case rel => exact ⟨k + 1, crS s1, by omega, Nat.le_refl _, rfl, rfl, crS_lt h1, hid (by rw [← HE.out, show 8 - k = (8 - (k + 1)) + 1 by omega]; rfl), rfl⟩
    · obtain rfl : k = 8 := by omega
      clear hlt hk
      go_wp2_with fail
      go_ret
      exact ⟨by rw [← HE.out]; rfl, rfl⟩
theorem rmore_any (s b : Nat) (hs : s < 65536) (hb : b < 256) (w : World) : Calls Try.prog 21 #[.int .u16 (s : Nat), .int .u8 (b : Nat)] w fun e w' => e = .returned (.int .u16 (crM s b : Nat)) ∧ w' = w := by
  have e := crX hs hb
  have hX := xor_lt16 hs (b := b * 256) (by omega)
  unfold crM
  generalize s ^^^ (b * 256) = x at *
  go_enter Try.func21, Try.ntmps21
  go_wp2
  clear e
  go_loopg [0, 5] 8 (fun g ts ti wr => ∃ k s1 : Nat, k ≤ 8 ∧ 8 - k ≤ g ∧ ti = .int .i64 (k : Nat) ∧ ts = .int .u16 (s1 : Nat) ∧ s1 < 65536 ∧ Hid (crI (8 - k) s1 = crI 8 x) ∧ wr = w)
  case atStart => exact ⟨0, x, by omega, by omega, rfl, rfl, hX, hid rfl, rfl⟩
  case round =>
    obtain ⟨k, s1, hk, hkg, rfl, rfl, h1, HE, rfl⟩ := hrel
    by_cases hlt : k < 8
    · have HR : Hid (crI (8 - (k + 1)) (crS s1) = crI 8 x) := hid (by rw [← HE.out, show 8 - k = (8 - (k + 1)) + 1 by omega]; rfl)
      have h2 := crS_lt h1
      by_cases h : 32768 ≤ s1
      · have e := hid (crS_hi h1 h)
        generalize crS s1 = y at *
        go_wp2_with fail
        go_roundg (8 - (k + 1))
        case measure => omega
        case rel => exact ⟨k + 1, y, by omega, Nat.le_refl _, rfl, congrArg _ e.out, h2, HR, rfl⟩
      · have e := hid (crS_lo h)
        generalize crS s1 = y at *
        go_wp2_with fail
        go_roundg (8 - (k + 1))
        case measure => omega
        case rel => exact ⟨k + 1, y, by omega, Nat.le_refl _, rfl, congrArg _ e.out, h2, HR, rfl⟩
    · obtain rfl : k = 8 := by omega
      clear hlt hk
      go_wp2_with fail
      go_ret
      exact ⟨by rw [← HE.out]; rfl, rfl⟩
end Go.Proofs.Ytmpikkhfeogdcaa
