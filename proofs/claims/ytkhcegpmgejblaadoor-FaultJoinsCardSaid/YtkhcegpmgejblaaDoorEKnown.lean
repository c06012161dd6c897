/-
  leadlinelaw4.known returns true.
-/
import Derived.Test.YtkhcegpmgejblaaDoorEAs2
import Derived.Test.YtkhcegpmgejblaaDoorEOps
import Derived.Test.YtkhcegpmgejblaaDoorEText
namespace Go.Proofs.YtkhcegpmgejblaaDoor
open Go Go.RowKit
set_option maxRecDepth 100000
set_option maxRecDepth 100000

theorem Glob.up {w w' : World} (h : Glob w) (hu : Up w w') : Glob w' := hu.cellEq h
theorem ops_nil (w : World) :
    Calls Tryd.prog 13 #[.nilIface] w fun r w' => r = .returned (.slice none 0 0) ∧ Up w w' := by
  go_enter Tryd.func13, Tryd.ntmps13
  go_wp2_with (first | (go_at_call 23; (with_reducible refine (out_nil _).mono ?_); rintro r wA ⟨rfl, huA⟩))
  refine wp_loop_rounds 1 ?_
  rw [rounds_succ]
  go_wp2_with fail
  go_ret
  exact ⟨rfl, huA⟩
theorem own_two {w : World} {base : Nat} {t : TypeId} {s x y : Value} (h : w.ownsRow base t 1 s 2 [x, y]) : ∃ g cap C, s = .slice (some ⟨g, 0, none⟩) 2 cap ∧ Blk w g t C ∧ C[0]? = some x ∧ C[1]? = some y := by
  obtain ⟨_, h0 | ⟨g, cap, cur, rfl, _, hb, _, _, hsz, htake⟩⟩ := h
  · exact absurd h0.2 (by decide)
  · refine ⟨g, cap, cur, rfl, hb, ?_, ?_⟩
    · rw [← Array.getElem?_toList, ← List.getElem?_take_of_lt (show 0 < 2 * 1 by decide), htake]; rfl
    · rw [← Array.getElem?_toList, ← List.getElem?_take_of_lt (show 1 < 2 * 1 by decide), htake]; rfl
theorem own_one {w : World} {base : Nat} {t : TypeId} {s x : Value} (h : w.ownsRow base t 1 s 1 [x]) : ∃ g cap C, s = .slice (some ⟨g, 0, none⟩) 1 cap ∧ Blk w g t C ∧ C[0]? = some x := by
  obtain ⟨_, h0 | ⟨g, cap, cur, rfl, _, hb, _, _, hsz, htake⟩⟩ := h
  · exact absurd h0.2 (by decide)
  · refine ⟨g, cap, cur, rfl, hb, ?_⟩
    rw [← Array.getElem?_toList, ← List.getElem?_take_of_lt (show 0 < 1 * 1 by decide), htake]; rfl
def bA : ByteArray := { data := #[97] }
def bB : ByteArray := { data := #[98] }
def eK : Er := .flt bA (.flt bB (.num 32))
theorem eK_text : eK.text = { data := #[97, 58, 32, 98, 58, 32, 101, 114, 114, 32, 51, 50] } := by
  have h : digits (32 : Int).toNat = { data := #[51, 50] } := by
    show (⟨(Lib.decDigits 32).toArray⟩ : ByteArray) = _
    rw [Lib.decDigits_two (by decide) (by decide)]
    rfl
  show bA ++ colon ++ (bB ++ colon ++ (errs ++ digits (32 : Int).toNat)) = _
  rw [h]
  decide
theorem text_eK {v : Value} {w : World} (h : IsEr w v eK) :
    Calls Tryd.prog 10 #[v] w fun r w' => r = .returned (.string { data := #[97, 58, 32, 98, 58, 32, 101, 114, 114, 32, 51, 50] }) ∧ Up w w' := by
  have h1 := text_any h (show 0 ≤ (32 : Int) ∧ (32 : Int) < 100 by decide) (by rw [eK_text]; show 12 < _; decide)
  rw [eK_text] at h1
  exact h1
theorem ops_eK {v : Value} {w : World} (h : IsEr w v eK) :
    Calls Tryd.prog 13 #[v] w fun r w' => Up w w' ∧ ∃ g cap C, r = .returned (.slice (some ⟨g, 0, none⟩) 2 cap) ∧ Blk w' g 9 C ∧ C[0]? = some (.string { data := #[97] }) ∧ C[1]? = some (.string { data := #[98] }) := by
  refine (ops_any h (by show 2 < _; decide)).mono ?_
  rintro r w' ⟨s, rfl, hu, hs⟩
  obtain ⟨g, cap, C, rfl, hB, h0, h1⟩ := own_two hs
  exact ⟨hu, g, cap, C, rfl, hB, h0, h1⟩
set_option maxHeartbeats 4000000 in
theorem known_true {w : World} (hg : Glob w) : Calls Tryd.prog 7 #[] w fun r w' => r = .returned (.bool true) ∧ Up w w' := by
  have HG := hid hg
  have N32 : Hid (∀ w : World, IsEr w (.iface 27 (.int .i64 32)) (.num 32)) := hid fun _ => rfl
  clear hg
  go_enter Tryd.func7, Tryd.ntmps7
  go_wp2_with (first
    | (go_at_call 15; (first
        | ((with_reducible refine (wrap_any (op := { data := #[98] }) (N32.out _)).mono ?_); rintro r w1 ⟨u1, rfl, hu1, h1⟩; have H1 := hid h1; clear h1)
        | ((with_reducible refine (wrap_any (op := { data := #[97] }) H1.out).mono ?_); rintro r w2 ⟨u2, rfl, hu2, h2⟩; have H2 : Hid (IsEr w2 u2 eK) := hid h2; clear h2; have HU := hid (hu1.trans hu2); have HG2 := hid (HG.out.up HU.out))
        | ((with_reducible refine (wrap_nil _ _).mono ?_); rintro r w8 ⟨rfl, rfl⟩)))
    | (go_at_call 13; (with_reducible refine (ops_eK H2.out).mono ?_); rintro r w3 ⟨hu3, g, cap, C, rfl, hB, hC0, hC1⟩; have HB := hid hB; have HC0 := hid hC0; have HC1 := hid hC1; clear hB hC0 hC1; have H3 := hid (H2.out.up hu3); have HG3 := hid (HG2.out.up hu3))
    | (go_at_call 10; (with_reducible refine (text_eK H3.out).mono ?_); rintro r w4 ⟨rfl, hu4⟩; have H4 := hid (H3.out.up hu4); have HG4 := hid (HG3.out.up hu4))
    | (go_at_call 9; (first
        | ((with_reducible refine (code_any H4.out HG4.out).mono ?_); rintro r w5 ⟨rfl, hu5⟩; have H5 := hid (H4.out.up hu5))
        | ((with_reducible refine (code_nil _).mono ?_); rintro r w9 ⟨rfl, hu9⟩)))
    | (go_at_call 12; (first
        | ((with_reducible refine (fis_any 32 H5.out).mono ?_); rintro r w6 ⟨rfl, hu6⟩; have H6 := hid (H5.out.up hu6))
        | ((with_reducible refine (fis_any 33 H6.out).mono ?_); rintro r w7 ⟨rfl, hu7⟩; have hBe := HB.out.up (((hu4.trans hu5).trans hu6).trans hu7); have hce0 := hBe.cell 0 HC0.out; have hce1 := hBe.cell 1 HC1.out))))
  go_ret
  exact ⟨rfl, ((((((HU.out.trans hu3).trans hu4).trans hu5).trans hu6).trans hu7).trans hu9)⟩
theorem text_none {op : ByteArray} {v : Value} {w : World} (hs : op.size < 2305843009213693952) (h : IsEr w v (.nilf op)) :
    Calls Tryd.prog 10 #[v] w fun r w' => r = .returned (.string (op ++ { data := #[58, 32, 110, 105, 108] })) ∧ Up w w' := by
  have e : (Er.nilf op).text = op ++ { data := #[58, 32, 110, 105, 108] } := by
    show op ++ colon ++ nils = _
    rw [ByteArray.append_assoc]
    have h : colon ++ nils = { data := #[58, 32, 110, 105, 108] } := by decide
    rw [h]
  have h1 := text_any h (show True from trivial) (by rw [e, ByteArray.size_append]; show _ + 5 < _; omega)
  rw [e] at h1
  exact h1
set_option maxHeartbeats 4000000 in
theorem none_w {op : ByteArray} {w : World} (hg : Glob w) (hs : op.size < 2305843009213693952) :
    Calls Tryd.prog 5 #[.string op] w fun r w' => r = .returned (.bool true) ∧ Up w w' := by
  have HG := hid hg
  have n1 : ¬ 9223372036854775807 < op.size + 5 := by omega
  have HS := hid hs
  clear hg hs
  go_enter Tryd.func5, Tryd.ntmps5
  go_wp2_with (first
    | (go_at_call 7; (with_reducible refine (known_true HG.out).mono ?_); rintro r wK ⟨rfl, huK⟩; have HGK := hid (HG.out.up huK))
    | (go_at_call 15; (with_reducible refine (wrap_nil _ _).mono ?_); rintro r w8 ⟨rfl, rfl⟩)
    | (go_at_call 10; (first
        | ((with_reducible refine (text_nil _).mono ?_); rintro r w1 ⟨rfl, hu1⟩; have HB := hid (Blk.up (Blk.new 39 #[.string op, .nilIface] rfl) hu1); have HG1 := hid ((HGK.out.up (Up.alloc _ _)).up hu1))
        | ((with_reducible refine (text_none HS.out H5.out).mono ?_); rintro r w5 ⟨rfl, hu5⟩; have HB5 := hid (((HB.out.up (hu2.trans hu3)).up hu4).up hu5); have H6 := hid (H5.out.up hu5))))
    | (go_at_call 13; (first
        | ((with_reducible refine (ops_nil _).mono ?_); rintro r w2 ⟨rfl, hu2⟩)
        | ((with_reducible refine (ops_any H6.out ?_).mono ?_); (focus (show 1 < _; decide)); rintro r w6 ⟨s, rfl, hu6, hsO⟩; obtain ⟨go, co, Co, rfl, -, -⟩ := own_one hsO)))
    | (go_at_call 12; (with_reducible refine (fis_nil _ _).mono ?_); rintro r w3 ⟨rfl, hu3⟩; have HN : Hid (IsEr w3 (.iface 37 (.pointer (some ⟨wK.heap.size, 0, none⟩))) (.nilf op)) := hid ⟨_, rfl, HB.out.up (hu2.trans hu3)⟩; have HG3 := hid (HG1.out.up (hu2.trans hu3)))
    | (go_at_call 9; (with_reducible refine (code_any HN.out HG3.out).mono ?_); rintro r w4 ⟨rfl, hu4⟩; have H5 := hid (HN.out.up hu4))
    | (go_at_call 16; (with_reducible refine (unwrap_flt HB5.out).mono ?_); rintro r w7 ⟨rfl, rfl⟩))
  go_ret
  exact ⟨rfl, ((((((huK.trans (Up.alloc _ _)).trans hu1).trans hu2).trans hu3).trans hu4).trans hu5).trans hu6⟩
end Go.Proofs.YtkhcegpmgejblaaDoor
