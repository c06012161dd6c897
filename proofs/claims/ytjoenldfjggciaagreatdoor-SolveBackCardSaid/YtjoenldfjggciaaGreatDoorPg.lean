import Derived.Test.YtjoenldfjggciaaGreatDoorPf
import Derived.Deep.MidRow
import Derived.Laws.CopyRow
import Derived.DataShut
import Derived.Test.YtjoenldfjggciaaGreatDoorRows
import Derived.Test.YtjoenldfjggciaaGreatDoorTie
import Derived.ChangeSame
import Derived.ChangeVars
import Derived.JoinedOf
import Derived.RowKit
import Derived.RowKitTokens
import Derived.LaidLaws
import Derived.LaidHandle
import Derived.Stop.Joined
import Derived.ChangeMaps5
import Derived.SevenTiedAt
namespace Go.Proofs.YtjoenldfjggciaaGreatDoor
open Go Go.RowKit
set_option maxRecDepth 100000
def BigAt (w : World) (get : Nat → Option Value) (i : Nat) (z : Int) : Prop :=
  ∃ b a n c, get (i * 2) = some (.bool b) ∧ get (i * 2 + 1) = some (.slice a n c) ∧ Big w (.agg #[.bool b, .slice a n c]) z
theorem BigAt.up {w w' : World} (hu : Up w w') {get : Nat → Option Value} {i : Nat} {z : Int} (h : BigAt w get i z) : BigAt w' get i z := by
  obtain ⟨b, a, n, c, h1, h2, h3⟩ := h
  exact ⟨b, a, n, c, h1, h2, h3.up hu⟩
def OwnB (w : World) (base : Nat) (v : Value) (l : List Int) : Prop :=
  ∃ xs : List Value, w.ownsRow base 46 2 v l.length xs ∧ ∀ i, i < l.length → BigAt w (fun k => xs[k]?) i (zth l i)
theorem OwnB.up {w w' : World} {base : Nat} {v : Value} {l : List Int} (hu : Up w w') (h : OwnB w base v l) : OwnB w' base v l := by
  obtain ⟨xs, h1, h2⟩ := h
  exact ⟨xs, World.ownsRow.up h1 hu, fun i hi => (h2 i hi).up hu⟩
theorem OwnB.nil (w : World) (base : Nat) : OwnB w base (.slice none 0 0) [] := ⟨[], World.ownsRow_nil _ _ _ _, fun _ hi => absurd hi (Nat.not_lt_zero _)⟩
def Bv (w : World) (v : Value) (l : List Int) : Prop :=
  (l = [] ∧ ∃ p c, v = .slice p 0 c) ∨ ∃ g cap C, v = .slice (some ⟨g, 0, none⟩) l.length cap ∧ l.length ≤ cap ∧ Blk w g 46 C ∧ ∀ i, i < l.length → BigAt w (fun k => C[k]?) i (zth l i)
theorem Bv.up {w w' : World} (hu : Up w w') {v : Value} {l : List Int} (h : Bv w v l) : Bv w' v l := by
  rcases h with h | ⟨g, cap, C, h1, h2, h3, h4⟩
  · exact .inl h
  · exact .inr ⟨g, cap, C, h1, h2, h3.up hu, fun i hi => (h4 i hi).up hu⟩
theorem Bv.slice {w : World} {v : Value} {l : List Int} (h : Bv w v l) : ∃ p c, v = .slice p l.length c := by
  rcases h with ⟨rfl, p, c, rfl⟩ | ⟨g, cap, C, rfl, _⟩
  · exact ⟨p, c, rfl⟩
  · exact ⟨_, cap, rfl⟩
theorem Bv.open {w : World} {v : Value} {l : List Int} (h : Bv w v l) (h0 : 0 < l.length) :
    ∃ g cap C, v = .slice (some ⟨g, 0, none⟩) l.length cap ∧ l.length ≤ cap ∧ Blk w g 46 C ∧ ∀ i, i < l.length → BigAt w (fun k => C[k]?) i (zth l i) := by
  rcases h with ⟨rfl, _⟩ | h
  · exact absurd h0 (by decide)
  · exact h
theorem OwnB.open {w : World} {base : Nat} {v : Value} {l : List Int} (h : OwnB w base v l) (h0 : 0 < l.length) :
    ∃ g cap C, v = .slice (some ⟨g, 0, none⟩) l.length cap ∧ base ≤ g ∧ Blk w g 46 C ∧ l.length ≤ cap ∧ cap ≤ maxLen ∧ C.size = cap * 2 ∧ ∀ i, i < l.length → BigAt w (fun k => C[k]?) i (zth l i) := by
  obtain ⟨xs, ⟨_, h1 | ⟨g, cap, cur, hv, hb, hB, hc, hm, hs, ht⟩⟩, h2⟩ := h
  · omega
  · refine ⟨g, cap, cur, hv, hb, hB, hc, hm, hs, fun i hi => ?_⟩
    obtain ⟨b, a, n, c, h3, h4, h5⟩ := h2 i hi
    rw [← ht] at h3 h4
    refine ⟨b, a, n, c, ?_, ?_, h5⟩
    · dsimp only at h3 ⊢; rw [← h3, List.getElem?_take_of_lt (by omega), Array.getElem?_toList]
    · dsimp only at h4 ⊢; rw [← h4, List.getElem?_take_of_lt (by omega), Array.getElem?_toList]
theorem OwnB.bv {w : World} {base : Nat} {v : Value} {l : List Int} (h : OwnB w base v l) : Bv w v l := by
  rcases Nat.eq_zero_or_pos l.length with h0 | h0
  · obtain ⟨xs, ⟨_, ⟨rfl, _⟩ | ⟨g, cap, cur, rfl, _⟩⟩, _⟩ := h
    · exact .inl ⟨List.length_eq_zero_iff.1 h0, _, _, rfl⟩
    · exact .inl ⟨List.length_eq_zero_iff.1 h0, _, _, by rw [h0]⟩
  · obtain ⟨g, cap, C, hv, _, hB, hc, _, _, hE⟩ := h.open h0
    exact .inr ⟨g, cap, C, hv, hc, hB, hE⟩
theorem OwnB.slice {w : World} {base : Nat} {v : Value} {l : List Int} (h : OwnB w base v l) : ∃ p c, v = .slice p l.length c := h.bv.slice
theorem big_zero (w : World) : Big w (.agg #[.bool false, .slice none 0 0]) 0 := ⟨none, 0, by simp [nl_zero], am_nil w⟩
section
variable {a : Act} {w : World} {g off : Nat} {vs : List Value}
def splB (C : Array Value) (off : Nat) (vs : List Value) : Array Value := (C.toList.take off ++ vs ++ C.toList.drop (off + 2)).toArray
end
theorem splB_size {C : Array Value} {off : Nat} {x y : Value} (hl : off + 2 ≤ C.size) : (splB C off [x, y]).size = C.size := by
  unfold splB; simp; omega
theorem splB_get {C : Array Value} {off k : Nat} {x y : Value} (hl : off + 2 ≤ C.size) : (splB C off [x, y])[k]? = if k = off then some x else if k = off + 1 then some y else C[k]? := by
  unfold splB
  have h1 : (C.toList.take off).length = off := by rw [List.length_take, Array.length_toList]; omega
  rw [List.getElem?_toArray]
  rcases Nat.lt_trichotomy k off with h | h | h
  · rw [if_neg (by omega), if_neg (by omega), List.append_assoc, List.getElem?_append_left (by omega), List.getElem?_take_of_lt h, Array.getElem?_toList]
  · subst h
    rw [if_pos rfl, List.append_assoc, List.getElem?_append_right (by omega), h1, Nat.sub_self]
    rfl
  · rw [if_neg (by omega), List.append_assoc, List.getElem?_append_right (by omega), h1]
    by_cases h2 : k = off + 1
    · rw [if_pos h2, h2, show off + 1 - off = 1 by omega]; rfl
    · obtain ⟨d, rfl⟩ : ∃ d, k = off + 2 + d := ⟨k - (off + 2), by omega⟩
      rw [if_neg h2, show off + 2 + d - off = d + 2 by omega]
      show (C.toList.drop (off + 2))[d]? = _
      rw [List.getElem?_drop, Array.getElem?_toList]
theorem OwnB.set {w : World} {base g cap n : Nat} {C : Array Value} {l : List Int} {b : Bool} {p : Option Addr} {m c : Nat} {z : Int} (h : OwnB w base (.slice (some ⟨g, 0, none⟩) n cap) l) (hB : Blk w g 46 C) {i : Nat} (hi : i < l.length) (hb : Big w (.agg #[.bool b, .slice p m c]) z) :
    OwnB (w.setRow g (splB C (i * 2) [.bool b, .slice p m c])) base (.slice (some ⟨g, 0, none⟩) n cap) (l.set i z) ∧ i * 2 + 2 ≤ C.size := by
  obtain ⟨g', cap', C', hv, hbs, hB', hc, hm, hs, hE⟩ := h.open (by omega)
  injection hv with e1 e2 e3
  injection e1 with e1
  injection e1 with e1
  subst e1 e2 e3
  have hCC : C' = C := by
    unfold Blk at hB hB'
    rw [hB] at hB'
    simp at hB'
    exact hB'.symm
  subst hCC
  have hl : i * 2 + 2 ≤ C'.size := by omega
  refine ⟨⟨(splB C' (i * 2) [.bool b, .slice p m c]).toList.take (l.length * 2), ⟨by have e := splB_size (x := .bool b) (y := .slice p m c) hl; have e2 : (splB C' (i * 2) [.bool b, .slice p m c]).toList.length = C'.size := (by rw [← e]; simp); rw [List.length_take, e2, List.length_set]; omega, .inr ⟨g, cap, _, by rw [List.length_set], hbs, hB.setRow _, by rw [List.length_set]; exact hc, hm, by rw [splB_size hl]; exact hs, by rw [List.length_set]⟩⟩, fun k hk => ?_⟩, hl⟩
  rw [List.length_set] at hk
  have hz : zth (l.set i z) k = if i = k then z else zth l k := by
    rw [zth_get (by rw [List.length_set]; exact hk), List.getElem_set]
    split
    · rfl
    · rw [zth_get hk]
  have hget : ∀ q, q < l.length * 2 → ((splB C' (i * 2) [.bool b, .slice p m c]).toList.take (l.length * 2))[q]? = if q = i * 2 then some (.bool b) else if q = i * 2 + 1 then some (.slice p m c) else C'[q]? := fun q hq => by
    rw [List.getElem?_take_of_lt hq, Array.getElem?_toList, splB_get hl]
  rw [hz]
  by_cases e : i = k
  · subst e
    rw [if_pos rfl]
    exact ⟨b, p, m, c, by dsimp only; rw [hget _ (by omega), if_pos rfl], by dsimp only; rw [hget _ (by omega), if_neg (by omega), if_pos rfl], hb.setRow hB⟩
  · rw [if_neg e]
    obtain ⟨b', a', n', c', h1, h2, h3⟩ := hE k hk
    exact ⟨b', a', n', c', by dsimp only; rw [hget _ (by omega), if_neg (by omega), if_neg (by omega)]; exact h1, by dsimp only; rw [hget _ (by omega), if_neg (by omega), if_neg (by omega)]; exact h2, h3.setRow hB⟩
theorem Big.grown {w w' : World} {row : Option Nat} {v : Value} {z : Int} (h : Big w v z) (hg : w.grownBy w' row) (hr : ∀ k, row = some k → ∃ C, Blk w k 46 C) : Big w' v z := by
  obtain ⟨a, c, h1, a2, c2, h2, h3, h4⟩ := h
  refine ⟨a, c, h1, a2, c2, h2, h3, fun h0 => ?_⟩
  obtain ⟨b, E, h5, h6, h7⟩ := h4 h0
  refine ⟨b, E, h5, ?_, h7⟩
  unfold Blk
  rw [hg.block b h6.lt ?_]
  · exact h6
  · intro e
    obtain ⟨C, hC⟩ := hr b e.symm
    unfold Blk at hC h6
    rw [hC] at h6
    simp at h6
def MV (w : World) (v : Value) : Prop := ∃ N L, SmO w v N L
theorem MV.up {w w' : World} (hu : Up w w') {v : Value} (h : MV w v) : MV w' v := by obtain ⟨N, L, h⟩ := h; exact ⟨N, L, h.up hu⟩
def Pair (a0 : Int) (s0 : Value) (w : World) (v : Value) : Prop :=
  ∃ g N1 s1 L1, v = .slice (some ⟨g, 0, none⟩) 2 2 ∧ Blk w g 24 #[.int .i64 a0, s0, .int .i64 N1, s1] ∧ SmO w (.agg #[.int .i64 N1, s1]) N1 L1
theorem Pair.up {a0 : Int} {s0 : Value} {w w' : World} (hu : Up w w') {v : Value} (h : Pair a0 s0 w v) : Pair a0 s0 w' v := by
  obtain ⟨g, N1, s1, L1, h1, h2, h3⟩ := h
  exact ⟨g, N1, s1, L1, h1, h2.up hu, h3.up hu⟩
def IsRowX (k : IntKind) (w : World) (a : Option Addr) (len cap : Nat) (zs : List Int) : Prop :=
  (a = none ∧ len = 0 ∧ cap = 0 ∧ zs = []) ∨
  ∃ x, a = some x ∧ len ≤ cap ∧ cap ≤ maxLen ∧ zs.length = cap ∧ (∀ i, i < zs.length → w.cell? (x.add i) = some (.int k (zs.getD i 0))) ∧ ∀ n ∈ zs, (Lit.int k n).wf = true
theorem zth_take {l : List Int} {k i : Nat} (h : i < k) : zth (l.take k) i = zth l i := by
  unfold zth
  rw [List.getD_eq_getElem?_getD, List.getD_eq_getElem?_getD, List.getElem?_take_of_lt h]
theorem wf_i64 {z : Int} (h : (Lit.int .i64 z).wf = true) : I64 z := by
  have := (Lit.wf_int_iff .i64 z).1 h
  rw [IntKind.min_i64, IntKind.max_i64] at this
  unfold I64; omega
theorem wf_nat {k : IntKind} {z : Int} {m : Nat} (h : (Lit.int k z).wf = true) (h0 : k.min = 0) (h1 : k.max = (m : Int)) : ∃ n : Nat, z = (n : Int) ∧ n < m + 1 := by
  have := (Lit.wf_int_iff k z).1 h
  rw [h0, h1] at this
  exact ⟨z.toNat, by omega, by omega⟩
theorem vw_row {w : World} {a : Option Addr} {len cap : Nat} {zs : List Int} (h : IsRowX .i64 w a len cap zs) : Vw w (.slice a len cap) (zs.take len) ∧ In64 (zs.take len) := by
  rcases h with ⟨rfl, rfl, rfl, rfl⟩ | ⟨x, rfl, hl, hm, hz, hc, hw⟩
  · exact ⟨⟨none, 0, rfl, ⟨Nat.le_refl _, fun _ => rfl⟩, fun i hi => absurd hi (Nat.not_lt_zero _)⟩, fun i hi => absurd hi (Nat.not_lt_zero _)⟩
  · have e : (zs.take len).length = len := by rw [List.length_take]; omega
    refine ⟨⟨some x, cap, by rw [e], ⟨by rw [e]; exact hl, fun e => by cases e⟩, fun i hi => ⟨x, rfl, ?_⟩⟩, fun i hi => ?_⟩
    · rw [e] at hi
      rw [zth_take hi]
      exact hc i (by omega)
    · rw [e] at hi
      rw [zth_take hi, zth_get (by omega)]
      exact wf_i64 (hw _ (List.getElem_mem _))
theorem vh_row {w : World} {a : Option Addr} {len cap : Nat} {zs : List Int} (h : IsRowX .i16 w a len cap zs) : Vh w (.slice a len cap) (zs.take len) ∧ In16 (zs.take len) := by
  rcases h with ⟨rfl, rfl, rfl, rfl⟩ | ⟨x, rfl, hl, hm, hz, hc, hw⟩
  · exact ⟨⟨none, 0, rfl, fun i hi => absurd hi (Nat.not_lt_zero _)⟩, fun i hi => absurd hi (Nat.not_lt_zero _)⟩
  · have e : (zs.take len).length = len := by rw [List.length_take]; omega
    refine ⟨⟨some x, cap, by rw [e], fun i hi => ⟨x, rfl, ?_⟩⟩, fun i hi => ?_⟩
    · rw [e] at hi
      rw [zth_take hi]
      exact hc i (by omega)
    · rw [e] at hi
      rw [zth_take hi, zth_get (by omega)]
      have := (Lit.wf_int_iff .i16 _).1 (hw (zs[i]'(by omega)) (List.getElem_mem _))
      rw [IntKind.min_i16, IntKind.max_i16] at this
      omega
theorem ssign_big {z : Int} {v : Value} {w : World} (h : Big w v z) :
    Calls Tryz.prog 49 #[v] w fun e w' => e = .returned (.int .i64 (sgn z)) ∧ Up w w' := by
  obtain ⟨a, c, rfl, -⟩ := h
  refine (bsign_any _ _ _ _ _).mono ?_
  rintro e w' ⟨rfl, hu⟩
  exact ⟨ret_int sgn_big, hu⟩
theorem sbig_any {z : Int} (hz : InR z) (w : World) :
    Calls Tryz.prog 47 #[.agg (cells 16 (limb (enc z)))] w fun e w' => Up w w' ∧ ∃ v, e = .returned v ∧ Big w' v z := by
  have HF := hid (fun w => from_wide hz w)
  unfold wideV at HF
  go_enter Tryz.func47, Tryz.ntmps47
  obtain ⟨W0, hW0⟩ : ∃ y, (w.alloc (.cells (cells 16 (limb (enc z))) 33)).alloc (.cells #[.bool false, .slice none 0 0] 46) = y := ⟨_, rfl⟩
  have hQ : Blk W0 (w.heap.size + 1) 46 #[.bool false, .slice none 0 0] := by rw [← hW0]; exact Blk.new _ _ (by simp)
  have hR : Row W0 w.heap.size 33 16 (limb (enc z)) := by rw [← hW0]; exact Row.up (row_newc _ _ _ rfl) (Up.alloc _ _)
  have hU : Up w W0 := by rw [← hW0]; exact (Up.alloc _ _).trans (Up.alloc _ _)
  go_wp2_with (first
    | ((with_reducible apply ld_rowP undW infoW); exact rfl; exact rfl; exact gRow)
    | (go_at_call 94; (with_reducible refine (HF.out _).mono ?_); rintro r w1 ⟨hu1, v1, rfl, hv1⟩; obtain ⟨b, a, n, c, rfl⟩ := hv1.shape; have hQ1 := hQ.up hu1)
    | ((with_reducible apply stB_P); exact rfl; exact rfl; exact hQ1; exact rfl; exact rfl; exact one2 _ _ _ _))
  exact bodyPost_ret (resB rfl rfl (hQ1.setRow _) rfl) rfl ⟨below_setRow (hU.trans hu1) (by omega) _, _, rfl, big_set hQ1 hv1⟩
def sbS (n : Nat) (l : List Int) (X : Nat → Int) (i : Nat) : Nat → Int := fun k => sumN k fun j => ent n l i j * X j
theorem sbS_bp {n : Nat} {l : List Int} {X : Nat → Int} (hR : rt n l = true) (hX : ∀ j, (X j).natAbs < bp 5) {i : Nat} (hi : i < n) (h8 : n ≤ 8) : ∀ k, k ≤ n → (sbS n l X i k).natAbs < bp 7 ∧ (k < n → (ent n l i k * X k).natAbs < bp 6) := by
  have e7 : bp 7 = bp 6 * 18446744073709551616 := bp_succ 6
  have hp : ∀ j, j < n → (ent n l i j * X j).natAbs < bp 6 := fun j hj => by
    have h1 := ent_fit hR hi hj
    have h2 := hX j
    have e6 : bp 6 = bp 5 * 18446744073709551616 := bp_succ 5
    rw [Int.natAbs_mul, e6, Nat.mul_comm]
    exact Nat.mul_lt_mul_of_lt_of_lt h2 (by omega)
  have key : ∀ k, k ≤ n → (sbS n l X i k).natAbs ≤ k * bp 6 := by
    intro k
    induction k with
    | zero => intro _; exact Nat.zero_le _
    | succ k ih =>
      intro hk
      have h1 := ih (by omega)
      have h2 := hp k (by omega)
      have h3 := Int.natAbs_add_le (sbS n l X i k) (ent n l i k * X k)
      show (sbS n l X i k + ent n l i k * X k).natAbs ≤ _
      rw [Nat.succ_mul]
      omega
  intro k hk
  refine ⟨?_, hp k⟩
  have h1 := key k hk
  have h2 : k * bp 6 ≤ 8 * bp 6 := Nat.mul_le_mul_right _ (by omega)
  have h3 := bp_pos 6
  omega
theorem run_neS {o : Oper} {ev : Operand → Value} {x y : Operand} {u : TypeId} (ho : o.op = .binOp .neq 33 x y u) {p : Nat} (hx : ev x = .agg (cells 16 (limb p))) (hy : ev y = .agg (cells 16 (limb p))) (hp : p < bp 16) (w : World) :
    (execOp ev o).run Tryz.prog w = .ok (.value (.bool false)) w := by
  unfold execOp
  simp only [ho, hx, hy, Sem.run_bind, run_eqGuard_agg _ _ _ _ _ _ _ (show Tryz.prog.eqGuardType Tryz.prog.depth 33 = false by kernel_rfl), Result.andThen_ok, run_neW hp hp, Sem.run_pure]
  simp
theorem run_ldBE {o : Oper} {ev : Operand → Value} {x : Operand} {w : World} {g : Nat} {C : Array Value} (ho : o.op = .load 46 x) (hx : ev x = .pointer (some ⟨g, 0, none⟩)) (hC : Blk w g 46 C) (h2 : C.size = 2) : (execOp ev o).run Tryz.prog w = .ok (.value (.agg C)) w := by
  obtain ⟨fs, hu⟩ := undB
  unfold execOp
  simp only [ho, hx, Instr.loadAt, Instr.sureAddr, Sem.run_bind, Sem.run_pure, Result.andThen_ok, run_loadVar_row w g _ 46 C (0, 0) _ hC hu rfl (by rw [infoB, h2])]
theorem cmpZ_self (z : Int) : cmpZ z z = 0 := by unfold cmpZ; rw [if_neg (Int.lt_irrefl z), if_neg (Int.lt_irrefl z)]
theorem sgn_pos {z : Int} (h : 0 < z) : sgn z = 1 := by unfold sgn; rw [if_neg (by omega), if_neg (by omega)]
set_option maxHeartbeats 16000000 in
theorem back_w {w : World} {vh vk : Value} {hs hl : List Int} (n d : Nat) (sm : Bool) (hg : Glob w)
    (hn : n < 256) (hd : d < 65536) (hvh : Vh w vh hs) (h16 : In16 hs) (hvk : Vw w vk hl) (hI : In64 hl) :
    Calls Tryz.prog 9 #[.int .u8 (n : Nat), .int .u16 (d : Nat), vh, vk, .bool sm] w fun r w' => r = .returned (.bool true) ∧ Up w w' := by
  have HK := hid (fun w' (hu : Up w w') => sknown_true (hg.up hu))
  have HVK := hid (fun w' (hu : Up w w') => Vw.up hu hvk)
  obtain ⟨ph, ch, rfl, hhc⟩ := hvh
  obtain ⟨pk, ck, rfl, -⟩ := hvk
  by_cases hC : hs.length ≤ 60
  · have d60 : decide ((60 : Int) < (hs.length : Int)) = false := decide_eq_false (by omega)
    by_cases hD : hl.length ≤ 40
    · have d40 : decide ((40 : Int) < (hl.length : Int)) = false := decide_eq_false (by omega)
      have HST := hid (fun w' (hu : Up w w') => seat_any n d hn hd (show Vh w' (.slice ph hs.length ch) hs from ⟨ph, ch, rfl, fun i hi => by obtain ⟨a, h1, h2⟩ := hhc i hi; exact ⟨a, h1, hu.cellEq h2⟩⟩) h16 hC)
      clear hhc h16 hg hn hd
      go_enter Tryz.func9, Tryz.ntmps9
      go_upto_region 8 with (first
        | ((with_reducible apply ldM_P); exact rfl; exact rfl; (first | exact hB | exact hB4); exact rfl)
        | (go_at_call 30; (with_reducible refine (HK.out _ (Up.refl _)).mono ?_); rintro r w1 ⟨rfl, hu1⟩)
        | (go_at_call 13; (with_reducible refine (HST.out _ hu1).mono ?_); rintro r w2 ⟨z, N, L, rfl, hu2, hs2, hR⟩; obtain ⟨m0, m8, -, -⟩ := rt_spec hR; obtain ⟨m, rfl⟩ : ∃ m : Nat, N = (m : Int) := ⟨N.toNat, by omega⟩; have hs2' := hs2; obtain ⟨s, base, rfl, hO2, hr2⟩ := hs2'; obtain ⟨p2, n2, c2, rfl⟩ := OwnI.slice hO2)
        | ((with_reducible apply stM_P); exact rfl; exact rfl; exact Blk.new _ _ rfl; exact rfl; exact rfl; exact two2 _ _ _ _ _
           have hub := below_setRow (Up.alloc w2 (.cells #[.int .i64 0, .slice none 0 0] 24)) (Nat.le_refl _) #[.int .i64 (m : Int), .slice p2 n2 c2]
           have hB := (Blk.new (w := w2) (b := w2.heap.size) 24 #[.int .i64 0, .slice none 0 0] rfl).setRow #[.int .i64 (m : Int), .slice p2 n2 c2]
           have hS := hs2.sm.up hub
           have hU := (hu1.trans hu2).trans hub
           obtain ⟨wA, hwA⟩ : ∃ x, (w2.alloc (.cells #[.int .i64 0, .slice none 0 0] 24)).setRow w2.heap.size #[.int .i64 (m : Int), .slice p2 n2 c2] = x := ⟨_, rfl⟩
           obtain ⟨bm, hbm⟩ : ∃ x, w2.heap.size = x := ⟨_, rfl⟩
           rw [hwA] at hB hS hU ⊢
           rw [hbm] at hB ⊢
           clear hub hwA hbm hs2 hO2 hu1 hu2)
        | (go_at_call 31; (with_reducible refine (vec_any m sm rfl (by omega) (HVK.out _ hU) hI (by omega)).mono ?_); rintro r w4 ⟨z4, b4, rfl, hu4, hb4, hO4⟩; obtain ⟨p4, c4, rfl, -, -⟩ := hO4.vw; have hV4 := hO4.vw; have hU4 := hU.trans hu4; have hB4 := hB.up hu4; have hS4 := hS.up hu4)
        | (go_at_call 32; (with_reducible refine (exact_any hS4 hV4 (vecL_in hI sm m (by omega)) (by rw [vecL_len]; omega)).mono ?_); rintro r w5 ⟨z5, u5, rfl, hu5, hF5, hz5, he5⟩; obtain ⟨pz, cz, rfl⟩ := hF5.slice; have hU5 := hU4.trans hu5; have hB5 := hB4.up hu5; have hS5 := hS4.up hu5; have hV5 := Vw.up hu5 hV4))
      have hVl := vecL_len hl sm m
      have hVi := hid (vecL_in hI sm m (by omega))
      clear hu4 hb4 hO4 hV4 hU4 hB4 hS4 hu5 hr2 hB hS hU HK HVK HST hI d60 d40
      generalize vecL hl sm m = V at *
      rw [hVl] at hV5 ⊢
      obtain ⟨E, hE⟩ : ∃ E, exL (m : Int) L V = E := ⟨_, rfl⟩
      rw [hE] at hF5 hz5 ⊢
      rcases he5 with ⟨h0, rfl⟩ | ⟨h0, t, y, rfl, -⟩
      · obtain ⟨m', hm', hDf, hxl⟩ := slC_def h0
        obtain rfl : m = m' := by omega
        have hEe : E = slL m L V := by rw [← hE]; unfold exL; rw [if_pos h0]; rfl
        have hEl : E.length = m := by rw [hEe]; exact mk_len _ _
        have hEa : ∀ i, i < m → zth E i = slX m L V i := fun i hi => by rw [hEe]; exact mk_at hi
        have hSol : ∀ i, i < m → sbS m L (slX m L V) i m = zth V i * slD m L := fun i hi => hDf.solves hi
        have HEB := hid (fun (i j : Nat) (hi : i < m) (hj : j < m) => ent_i64 hDf.right hi hj)
        have HSb := hid (fun (i : Nat) (hi : i < m) => sbS_bp hDf.right (X := slX m L V) (fun j => hDf.num_bp j) hi hDf.n8)
        have HXb := hid (fun j => hDf.num_bp j)
        have HDb : Hid ((slD m L).natAbs < bp 5 ∧ 0 < slD m L) := hid ⟨hDf.den_bp, hDf.den_pos⟩
        have HVv := hid (fun i (hi : i < m) => (hVi.out i (by omega) : I64 (zth V i)))
        have HAT := hid (fun (i j : Nat) (hi : i < m) (hj : j < m) w' (hu : Up w5 w') => rat_ent (i : Int) (j : Int) (hS5.up hu) hR (show rng (m : Int) i j = true from decide_eq_true (by omega)))
        have m8' : m ≤ 8 := by omega
        have HF := hid (show Fv w5 (.slice pz E.length cz) (slD m L) E from hF5)
        have HVm := hid (fun i (hi : i < m) => (show ∃ ad, p4 = some ad ∧ ∀ w', Up w5 w' → w'.cell? (ad.add i) = some (.int .i64 (zth V i)) from by
          obtain ⟨q', cq', xq, _, hcq⟩ := hV5
          injection xq with y1 y2 y3
          subst y1
          obtain ⟨ad, h1, h2⟩ := hcq i (by omega)
          exact ⟨ad, h1, fun w' hu => hu.cellEq h2⟩))
        rw [hEl]
        have HEl := hid hEl
        have HEa := hid hEa
        have HSol := hid hSol
        clear hDf hm' hEe hE hz5 hF5 hEl hEa hSol h0 hV5 hVi hxl hVl hR hS5
        generalize slX m L V = X at *
        generalize slD m L = D at *
        have hcm5 := hB5.cell 0 rfl
        go_wp2_with fail
        clear hcm5
        go_loopg [15] m (fun g ti wr => ∃ i : Nat, i ≤ m ∧ m - i ≤ g ∧ ti = .int .i64 (i : Nat) ∧ Up w5 wr)
        case atStart => exact ⟨0, Nat.zero_le _, by omega, rfl, Up.refl _⟩
        case round =>
          obtain ⟨i, hi, hig, rfl, hu⟩ := hrel
          have hcm := (hB5.up hu).cell 0 rfl
          by_cases hlt : i < m
          · obtain ⟨gF, cF, CF, hv, -, hBF, htF⟩ := HF.out.open (by rw [HEl.out]; omega)
            rw [HEl.out] at hv
            injection hv with x1 x2 x3
            subst x1 x3
            have HRn := hid (fun j (hj : j < m) w' (hB : Blk w' gF 76 CF) => HEa.out j hj ▸ fv_range hB htF (by rw [HEl.out]; exact hj))
            have e1 : IntKind.i64.wrap ((i : Int) + 1) = (i : Int) + 1 := IntWalk.i64_in _ (by omega)
            clear htF x2
            go_wp2_with (first
              | ((with_reducible apply stB_P); exact rfl; exact rfl; exact Blk.new _ _ rfl; exact rfl; exact rfl; exact one2 _ _ _ _
                 refine wpL_folded (fun wd => Up wr wd ∧ Blk wd wr.heap.size 46 #[.bool false, .slice none 0 0]) ⟨below_setRow (Up.alloc _ _) (Nat.le_refl _) _, Blk.setRow (Blk.new _ _ rfl) _⟩ ?_
                 rintro wM ⟨hXM, hBs⟩
                 have hcm2 := ((hB5.up hu).up hXM).cell 0 rfl))
            obtain ⟨bS, hbS⟩ : ∃ y, wr.heap.size = y := ⟨_, rfl⟩
            have hbw : w5.heap.size ≤ bS := by have := hu.size; omega
            rw [hbS] at hBs ⊢
            have hu9 := hu.trans hXM
            clear hbS hXM hu hcm
            go_loopg [17] m (fun g tj wr => ∃ (j : Nat) (b0 : Bool) (p0 : Option Addr) (n0 c0 : Nat), j ≤ m ∧ m - j ≤ g ∧ tj = .int .i64 (j : Nat) ∧ Blk wr bS 46 #[.bool b0, .slice p0 n0 c0] ∧ Big wr (.agg #[.bool b0, .slice p0 n0 c0]) (sbS m L X i j) ∧ Up w5 wr)
            case atStart => exact ⟨0, false, none, 0, 0, Nat.zero_le _, by omega, rfl, hBs, big_zero _, hu9⟩
            case round =>
              clear hBs hu9 hcm2
              obtain ⟨j, b0, p0, n0, c0, hj, hjg, rfl, hBs, hBg, hu⟩ := hrel
              have hBm := hB5.up hu
              have hcm := hBm.cell 0 rfl
              have hBFr := hBF.up hu
              obtain ⟨hs7, hp6⟩ := HSb.out i hlt j hj
              by_cases hjl : j < m
              · have e2 : IntKind.i64.wrap ((j : Int) + 1) = (j : Int) + 1 := IntWalk.i64_in _ (by omega)
                have hei := HEB.out i j hlt hjl
                have HA := hid (fun w' (hu' : Up wr w') => HAT.out i j hlt hjl w' (hu.trans hu'))
                have HO1 := hid (fun w => of_big (ent m L i j) hei.1 hei.2 w)
                have HBi := hid (fun w => sbig_any (few_inR (k := 5) (by omega) (HXb.out j)) w)
                have HM := hid (fun (va vb : Value) (w : World) (ha : Big w va (ent m L i j)) (hb : Big w vb (X j)) => mul_big ha hb (nl_bp (k := 1) (by omega) (i64_bp hei)) (nl_bp (k := 5) (by omega) (HXb.out j)))
                have HAd := hid (fun (va vb : Value) (w : World) (ha : Big w va (sbS m L X i j)) (hb : Big w vb (ent m L i j * X j)) => add_big ha hb (nl_bp (k := 7) (by omega) hs7) (nl_bp (k := 6) (by omega) (hp6 hjl)))
                have hSs : sbS m L X i (j + 1) = sbS m L X i j + ent m L i j * X j := rfl
                have HRj := hid (fun w' (hB : Blk w' gF 76 CF) => fc_num (HRn.out j hjl w' hB))
                have HSs := hid hSs
                clear hSs hei hs7 hp6
                obtain ⟨S1, hS1e⟩ : ∃ y, sbS m L X i j = y := ⟨_, rfl⟩
                rw [hS1e] at hBg HAd HSs
                clear hS1e
                obtain ⟨eij, heij⟩ : ∃ y, ent m L i j = y := ⟨_, rfl⟩
                rw [heij] at HA HO1 HM HAd HSs
                clear heij
                obtain ⟨xj, hxj⟩ : ∃ y, X j = y := ⟨_, rfl⟩
                rw [hxj] at HBi HM HAd HSs HRj
                clear hxj
                obtain ⟨S2, hS2e⟩ : ∃ y, S1 + eij * xj = y := ⟨_, rfl⟩
                rw [hS2e] at HAd HSs
                clear hS2e
                go_wp2_with fail
                refine wp_region_sp (n := 116) 14 [65, 66, 67, 68, 69, 70, 71, 72, 73, 74, 75, 76, 77, 78] [SP.is (.agg #[.bool b0, .slice p0 n0 c0]), SP.is (.agg #[.int .i64 (m : Nat), .slice p2 n2 c2]), SP.is (.int .i64 (i : Nat)), SP.is (.int .i64 (j : Nat)), SP.is (.int .i64 eij), SP.of (fun v w1 => Big w1 v eij) (fun _ _ _ h hu => h.up hu), SP.is (.slice (some ⟨gF, 0, none⟩) m cz), SP.is (.int .i64 (j : Nat)), SP.is (.pointer (some ⟨gF, j * 32, none⟩)), SP.is (.pointer (some ⟨gF, j * 32, none⟩)), SP.is (.agg (cells 16 (limb (enc xj)))), SP.of (fun v w1 => Big w1 v xj) (fun _ _ _ h hu => h.up hu), SP.of (fun v w1 => Big w1 v (eij * xj)) (fun _ _ _ h hu => h.up hu), SP.of (fun v w1 => Big w1 v S2) (fun _ _ _ h hu => h.up hu), SP.any] (fun wq => Blk wq bS 46 #[.bool b0, .slice p0 n0 c0] ∧ Blk wq bm 24 #[.int .i64 (m : Int), .slice p2 n2 c2] ∧ Blk wq gF 76 CF ∧ Up wr wq ∧ Below w.heap.size w wq) (by kernel_rfl) (by rfl) (by kernel_rfl) (by kernel_rfl) (fun _ _ h hu => ⟨(h.1).up hu, (h.2.1).up hu, (h.2.2.1).up hu, (h.2.2.2.1).trans hu, below_up (h.2.2.2.2) hu⟩) ⟨(by first | assumption | exact gBlk), (by first | assumption | exact gBlk), (by first | assumption | exact gBlk), (by first | exact Up.refl _ | assumption), gUp⟩ (fun ev w9 hS9 i o hne hi hev => ?_) (fun gR wE hq hSE huE => ?_)
                · have ⟨hS1, hS2, hS3, hS4, hSB⟩ := hS9
                  have hcC := hev.const
                  have hcF := hev.func
                  have hcG := hev.global
                  rcases i with _ | _ | _ | _ | _ | _ | _ | _ | _ | _ | _ | _ | _ | _ | _ | i
                  · obtain rfl := Option.some.inj (show some _ = some o from hi)
                    have e16 := hev.other 16 (by kernel_rfl)
                    simp [Act.eval] at e16
                    exact leavesR_value (run_ldBE rfl (by go_simp) hS1 rfl) rfl
                  · obtain rfl := Option.some.inj (show some _ = some o from hi)
                    have e11 := hev.other 11 (by kernel_rfl)
                    simp [Act.eval] at e11
                    exact leavesR_value (run_ldME rfl (by go_simp) hS2 rfl) rfl
                  · obtain rfl := Option.some.inj (show some _ = some o from hi)
                    have e15 := hev.other 15 (by kernel_rfl)
                    simp [Act.eval] at e15
                    exact leavesR_value (u := .int .i64 (i : Nat)) (by first | (go_simp; done) | (go_simp; exact rfl)) rfl
                  · obtain rfl := Option.some.inj (show some _ = some o from hi)
                    have e17 := hev.other 17 (by kernel_rfl)
                    simp [Act.eval] at e17
                    exact leavesR_value (u := .int .i64 (j : Nat)) (by first | (go_simp; done) | (go_simp; exact rfl)) rfl
                  · obtain rfl := Option.some.inj (show some _ = some o from hi)
                    have e66 : ev (.tmp 66) = (.agg #[.int .i64 (m : Nat), .slice p2 n2 c2]) := hev.dep 1 66 (by kernel_rfl)
                    have e67 : ev (.tmp 67) = (.int .i64 (i : Nat)) := hev.dep 2 67 (by kernel_rfl)
                    have e68 : ev (.tmp 68) = (.int .i64 (j : Nat)) := hev.dep 3 68 (by kernel_rfl)
                    refine leavesR_call ?_ ((HA.out _ hS4).mono fun _ _ h => ⟨h.2, _, h.1, rfl⟩)
                    go_simp
                  · obtain rfl := Option.some.inj (show some _ = some o from hi)
                    have e69 : ev (.tmp 69) = (.int .i64 eij) := hev.dep 4 69 (by kernel_rfl)
                    refine leavesR_call ?_ (HO1.out _)
                    go_simp
                  · obtain rfl := Option.some.inj (show some _ = some o from hi)
                    have e13 := hev.other 13 (by kernel_rfl)
                    simp [Act.eval] at e13
                    exact leavesR_value (u := .slice (some ⟨gF, 0, none⟩) m cz) (by first | (go_simp; done) | (go_simp; exact rfl)) rfl
                  · obtain rfl := Option.some.inj (show some _ = some o from hi)
                    have e17 := hev.other 17 (by kernel_rfl)
                    simp [Act.eval] at e17
                    exact leavesR_value (u := .int .i64 (j : Nat)) (by first | (go_simp; done) | (go_simp; exact rfl)) rfl
                  · obtain rfl := Option.some.inj (show some _ = some o from hi)
                    have e71 : ev (.tmp 71) = (.slice (some ⟨gF, 0, none⟩) m cz) := hev.dep 6 71 (by kernel_rfl)
                    have e72 : ev (.tmp 72) = (.int .i64 (j : Nat)) := hev.dep 7 72 (by kernel_rfl)
                    exact leavesR_value (u := .pointer (some ⟨gF, j * 32, none⟩)) (by first | (go_simp; done) | (go_simp; exact rfl)) rfl
                  · obtain rfl := Option.some.inj (show some _ = some o from hi)
                    have e73 : ev (.tmp 73) = (.pointer (some ⟨gF, j * 32, none⟩)) := hev.dep 8 73 (by kernel_rfl)
                    exact leavesR_value (u := .pointer (some ⟨gF, j * 32, none⟩)) (by first | (go_simp; done) | (go_simp; exact rfl)) rfl
                  · obtain rfl := Option.some.inj (show some _ = some o from hi)
                    have e74 : ev (.tmp 74) = (.pointer (some ⟨gF, j * 32, none⟩)) := hev.dep 9 74 (by kernel_rfl)
                    exact leavesR_value (run_ldW rfl e74 (HRj.out _ hS3)) rfl
                  · obtain rfl := Option.some.inj (show some _ = some o from hi)
                    have e75 : ev (.tmp 75) = (.agg (cells 16 (limb (enc xj)))) := hev.dep 10 75 (by kernel_rfl)
                    refine leavesR_call ?_ (HBi.out _)
                    go_simp
                  · obtain rfl := Option.some.inj (show some _ = some o from hi)
                    have e70 : (fun v w1 => Big w1 v eij) (ev (.tmp 70)) w9 := hev.dep 5 70 (by kernel_rfl)
                    dsimp only at e70
                    obtain ⟨v70, hv70⟩ : ∃ v, ev (.tmp 70) = v := ⟨_, rfl⟩
                    rw [hv70] at e70
                    have e76 : (fun v w1 => Big w1 v xj) (ev (.tmp 76)) w9 := hev.dep 11 76 (by kernel_rfl)
                    dsimp only at e76
                    obtain ⟨v76, hv76⟩ : ∃ v, ev (.tmp 76) = v := ⟨_, rfl⟩
                    rw [hv76] at e76
                    refine leavesR_call ?_ (HM.out _ _ _ e70 e76)
                    go_simp
                  · obtain rfl := Option.some.inj (show some _ = some o from hi)
                    have e65 : ev (.tmp 65) = (.agg #[.bool b0, .slice p0 n0 c0]) := hev.dep 0 65 (by kernel_rfl)
                    have e77 : (fun v w1 => Big w1 v (eij * xj)) (ev (.tmp 77)) w9 := hev.dep 12 77 (by kernel_rfl)
                    dsimp only at e77
                    obtain ⟨v77, hv77⟩ : ∃ v, ev (.tmp 77) = v := ⟨_, rfl⟩
                    rw [hv77] at e77
                    refine leavesR_call ?_ (HAd.out _ _ _ (e65 ▸ hBg.up hS4) e77)
                    go_simp
                  · exact absurd rfl hne
                  · exact absurd (show i + 15 < 15 from (Array.getElem?_eq_some_iff.1 hi).1) (by omega)
                have ⟨hS1, hS2, hS3, hS4, hSB⟩ := hSE
                have q0 : gR 65 = (.agg #[.bool b0, .slice p0 n0 c0]) := hq 0 65 (by decide) (by kernel_rfl)
                have q1 : gR 66 = (.agg #[.int .i64 (m : Nat), .slice p2 n2 c2]) := hq 1 66 (by decide) (by kernel_rfl)
                have q2 : gR 67 = (.int .i64 (i : Nat)) := hq 2 67 (by decide) (by kernel_rfl)
                have q3 : gR 68 = (.int .i64 (j : Nat)) := hq 3 68 (by decide) (by kernel_rfl)
                have q4 : gR 69 = (.int .i64 eij) := hq 4 69 (by decide) (by kernel_rfl)
                have q5 : (fun v w1 => Big w1 v eij) (gR 70) wE := hq 5 70 (by decide) (by kernel_rfl)
                dsimp only at q5
                obtain ⟨v70, hv70⟩ : ∃ v, gR 70 = v := ⟨_, rfl⟩
                rw [hv70] at q5
                have q6 : gR 71 = (.slice (some ⟨gF, 0, none⟩) m cz) := hq 6 71 (by decide) (by kernel_rfl)
                have q7 : gR 72 = (.int .i64 (j : Nat)) := hq 7 72 (by decide) (by kernel_rfl)
                have q8 : gR 73 = (.pointer (some ⟨gF, j * 32, none⟩)) := hq 8 73 (by decide) (by kernel_rfl)
                have q9 : gR 74 = (.pointer (some ⟨gF, j * 32, none⟩)) := hq 9 74 (by decide) (by kernel_rfl)
                have q10 : gR 75 = (.agg (cells 16 (limb (enc xj)))) := hq 10 75 (by decide) (by kernel_rfl)
                have q11 : (fun v w1 => Big w1 v xj) (gR 76) wE := hq 11 76 (by decide) (by kernel_rfl)
                dsimp only at q11
                obtain ⟨v76, hv76⟩ : ∃ v, gR 76 = v := ⟨_, rfl⟩
                rw [hv76] at q11
                have q12 : (fun v w1 => Big w1 v (eij * xj)) (gR 77) wE := hq 12 77 (by decide) (by kernel_rfl)
                dsimp only at q12
                obtain ⟨v77, hv77⟩ : ∃ v, gR 77 = v := ⟨_, rfl⟩
                rw [hv77] at q12
                have q13 : (fun v w1 => Big w1 v S2) (gR 78) wE := hq 13 78 (by decide) (by kernel_rfl)
                dsimp only at q13
                obtain ⟨v78, hv78⟩ : ∃ v, gR 78 = v := ⟨_, rfl⟩
                rw [hv78] at q13
                refine ⟨fun h => absurd h (by decide), fun o ho => ?_⟩
                obtain rfl := Option.some.inj (show some _ = some o from ho)
                simp only [putL, List.map_cons, List.map_nil, q0, q1, q2, q3, q4, hv70, q6, q7, q8, q9, q10, hv76, hv77, hv78, Act.put, pu1, pu2, pu3]
                clear hq hSE q0 q1 q2 q3 q4 q6 q7 q8 q9 q10
                obtain ⟨bb, ba, bn, bc, rfl⟩ := q13.shape
                refine wp_stB rfl rfl rfl rfl hS1 rfl rfl (one2 _ _ _ _) ?_
                have gB := hS1.setRow #[.bool bb, .slice ba bn bc]
                have gG := big_set (D := #[.bool bb, .slice ba bn bc]) hS1 q13
                have gU := below_setRow (hu.trans hS4) hbw #[.bool bb, .slice ba bn bc]
                obtain ⟨wK, hwK⟩ : ∃ wK, wE.setRow bS #[.bool bb, .slice ba bn bc] = wK := ⟨_, rfl⟩
                rw [hwK] at gB gG gU ⊢
                clear hwK q13 q12 q11 q5 hS1 hS2 hS3 hS4 hSB huE
                go_wp2_with fail
                go_roundg (m - (j + 1))
                case measure => omega
                case rel => exact ⟨j + 1, bb, ba, bn, bc, hjl, Nat.le_refl _, rfl, gB, by rw [HSs.out]; exact gG, gU⟩
              · obtain rfl : j = m := by omega
                obtain ⟨ad, rfl, hcv⟩ := HVm.out i hlt
                have hcvr := hcv wr hu
                have hj0 : ¬ j = 0 := by omega
                have hj1 : (0 : Int) < (j : Int) := by omega
                have hv64 := HVv.out i hlt
                have hse := HSol.out i hlt
                rw [hse] at hBg hs7
                have hD5 := HDb.out.1
                have HO1 := hid (fun w => of_big (zth V i) hv64.1 hv64.2 w)
                have HBi := hid (fun w => sbig_any (few_inR (k := 5) (by omega) hD5) w)
                have HM := hid (fun (va vb : Value) (w : World) (ha : Big w va (zth V i)) (hb : Big w vb D) => mul_big ha hb (nl_bp (k := 1) (by omega) (i64_bp hv64)) (nl_bp (k := 5) (by omega) hD5))
                have HCm := hid (fun (va vb : Value) (w : World) (ha : Big w va (zth V i * D)) (hb : Big w vb (zth V i * D)) => cmp_big ha hb (nl_bp (k := 7) (by omega) hs7) (nl_bp (k := 7) (by omega) hs7))
                simp only [cmpZ_self] at HCm
                have HSg := hid (fun (v : Value) (w : World) (h : Big w v D) => sgn_pos HDb.out.2 ▸ ssign_big h)
                have HRi := hid (fun w' (hB : Blk w' gF 76 CF) => fc_den (HRn.out i hlt w' hB))
                have HR0 := hid (fun w' (hB : Blk w' gF 76 CF) => fc_den (HRn.out 0 (by omega) w' hB))
                clear hcv hv64 hse hs7 hp6 hD5
                obtain ⟨vi, hvi⟩ : ∃ y, zth V i = y := ⟨_, rfl⟩
                rw [hvi] at hBg HO1 HM HCm hcvr
                clear hvi
                go_wp2_with fail
                refine wp_region_sg (n := 116) 37 [79, 80, 81, 82, 83, 84, 85, 86, 87, 88, 89, 90, 91, 92, 93, 94, 95, 96, 97, 98, 99, 100, 101, 102, 103, 104, 105, 106, 107, 108, 109, 110, 111, 112, 113, 114, 115] [SG.is (.agg #[.bool b0, .slice p0 n0 c0]), SG.is (.slice (some ad) j c4), SG.is (.int .i64 (i : Nat)), SG.is (.pointer (some (ad.add i))), SG.is (.int .i64 vi), SG.of (fun v w1 => Big w1 v vi) (fun _ _ _ h hu => h.up hu), SG.is (.slice (some ⟨gF, 0, none⟩) j cz), SG.is (.int .i64 (i : Nat)), SG.is (.pointer (some ⟨gF, i * 32, none⟩)), SG.is (.pointer (some ⟨gF, i * 32 + 16, none⟩)), SG.is (.agg (cells 16 (limb (enc D)))), SG.of (fun v w1 => Big w1 v D) (fun _ _ _ h hu => h.up hu), SG.of (fun v w1 => Big w1 v (vi * D)) (fun _ _ _ h hu => h.up hu), SG.is (.int .i64 0), SG.tt false, SG.tt false, SG.is (.slice (some ⟨gF, 0, none⟩) j cz), SG.is (.int .i64 (i : Nat)), SG.is (.pointer (some ⟨gF, i * 32, none⟩)), SG.is (.pointer (some ⟨gF, i * 32 + 16, none⟩)), SG.is (.agg (cells 16 (limb (enc D)))), SG.is (.slice (some ⟨gF, 0, none⟩) j cz), SG.is (.pointer (some ⟨gF, 0, none⟩)), SG.is (.pointer (some ⟨gF, 16, none⟩)), SG.is (.agg (cells 16 (limb (enc D)))), SG.is (.bool false), SG.is (.bool false), SG.tt false, SG.is (.slice (some ⟨gF, 0, none⟩) j cz), SG.is (.int .i64 (i : Nat)), SG.is (.pointer (some ⟨gF, i * 32, none⟩)), SG.is (.pointer (some ⟨gF, i * 32 + 16, none⟩)), SG.is (.agg (cells 16 (limb (enc D)))), SG.of (fun v w1 => Big w1 v D) (fun _ _ _ h hu => h.up hu), SG.is (.int .i64 1), SG.is (.bool false), SG.is (.bool false)] (fun wq => Blk wq bS 46 #[.bool b0, .slice p0 n0 c0] ∧ wq.cell? (ad.add i) = some (.int .i64 vi) ∧ Blk wq gF 76 CF ∧ Up wr wq ∧ Below w.heap.size w wq) (by kernel_rfl) (by rfl) (by kernel_rfl) (by kernel_rfl) (fun _ _ h hu => ⟨(h.1).up hu, hu.cell (h.2.1), (h.2.2.1).up hu, (h.2.2.2.1).trans hu, below_up (h.2.2.2.2) hu⟩) ⟨(by first | assumption | exact gBlk), (by assumption), (by first | assumption | exact gBlk), (by first | exact Up.refl _ | assumption), gUp⟩ (fun ev w9 hS9 i o hne hi hwt hev => ?_) (fun gR wE hq hSE huE => ?_)
                · have ⟨hS1, hS2, hS3, hS4, hSB⟩ := hS9
                  have hcC := hev.const
                  have hcF := hev.func
                  have hcG := hev.global
                  rcases i with _ | _ | _ | _ | _ | _ | _ | _ | _ | _ | _ | _ | _ | _ | _ | _ | _ | _ | _ | _ | _ | _ | _ | _ | _ | _ | _ | _ | _ | _ | _ | _ | _ | _ | _ | _ | _ | i
                  · obtain rfl := Option.some.inj (show some _ = some o from hi)
                    have e16 := hev.other 16 (by kernel_rfl)
                    simp [Act.eval] at e16
                    exact leavesR_value (run_ldBE rfl (by go_simp) hS1 rfl) rfl
                  · obtain rfl := Option.some.inj (show some _ = some o from hi)
                    have e12 := hev.other 12 (by kernel_rfl)
                    simp [Act.eval] at e12
                    exact leavesR_value (u := .slice (some ad) j c4) (by first | (go_simp; done) | (go_simp; exact rfl)) rfl
                  · obtain rfl := Option.some.inj (show some _ = some o from hi)
                    have e15 := hev.other 15 (by kernel_rfl)
                    simp [Act.eval] at e15
                    exact leavesR_value (u := .int .i64 (i : Nat)) (by first | (go_simp; done) | (go_simp; exact rfl)) rfl
                  · obtain rfl := Option.some.inj (show some _ = some o from hi)
                    have e80 : ev (.tmp 80) = (.slice (some ad) j c4) := hev.dep 1 80 (by kernel_rfl)
                    have e81 : ev (.tmp 81) = (.int .i64 (i : Nat)) := hev.dep 2 81 (by kernel_rfl)
                    exact leavesR_value (u := .pointer (some (ad.add i))) (by first | (go_simp; done) | (go_simp; exact rfl)) rfl
                  · obtain rfl := Option.some.inj (show some _ = some o from hi)
                    have e82 : ev (.tmp 82) = (.pointer (some (ad.add i))) := hev.dep 3 82 (by kernel_rfl)
                    exact leavesR_value (u := .int .i64 vi) (by go_simp) rfl
                  · obtain rfl := Option.some.inj (show some _ = some o from hi)
                    have e83 : ev (.tmp 83) = (.int .i64 vi) := hev.dep 4 83 (by kernel_rfl)
                    refine leavesR_call ?_ (HO1.out _)
                    go_simp
                  · obtain rfl := Option.some.inj (show some _ = some o from hi)
                    have e13 := hev.other 13 (by kernel_rfl)
                    simp [Act.eval] at e13
                    exact leavesR_value (u := .slice (some ⟨gF, 0, none⟩) j cz) (by first | (go_simp; done) | (go_simp; exact rfl)) rfl
                  · obtain rfl := Option.some.inj (show some _ = some o from hi)
                    have e15 := hev.other 15 (by kernel_rfl)
                    simp [Act.eval] at e15
                    exact leavesR_value (u := .int .i64 (i : Nat)) (by first | (go_simp; done) | (go_simp; exact rfl)) rfl
                  · obtain rfl := Option.some.inj (show some _ = some o from hi)
                    have e85 : ev (.tmp 85) = (.slice (some ⟨gF, 0, none⟩) j cz) := hev.dep 6 85 (by kernel_rfl)
                    have e86 : ev (.tmp 86) = (.int .i64 (i : Nat)) := hev.dep 7 86 (by kernel_rfl)
                    exact leavesR_value (u := .pointer (some ⟨gF, i * 32, none⟩)) (by first | (go_simp; done) | (go_simp; exact rfl)) rfl
                  · obtain rfl := Option.some.inj (show some _ = some o from hi)
                    have e87 : ev (.tmp 87) = (.pointer (some ⟨gF, i * 32, none⟩)) := hev.dep 8 87 (by kernel_rfl)
                    exact leavesR_value (u := .pointer (some ⟨gF, i * 32 + 16, none⟩)) (by first | (go_simp; done) | (go_simp; exact rfl)) rfl
                  · obtain rfl := Option.some.inj (show some _ = some o from hi)
                    have e88 : ev (.tmp 88) = (.pointer (some ⟨gF, i * 32 + 16, none⟩)) := hev.dep 9 88 (by kernel_rfl)
                    exact leavesR_value (run_ldW rfl e88 (HRi.out _ hS3)) rfl
                  · obtain rfl := Option.some.inj (show some _ = some o from hi)
                    have e89 : ev (.tmp 89) = (.agg (cells 16 (limb (enc D)))) := hev.dep 10 89 (by kernel_rfl)
                    refine leavesR_call ?_ (HBi.out _)
                    go_simp
                  · obtain rfl := Option.some.inj (show some _ = some o from hi)
                    have e84 : (fun v w1 => Big w1 v vi) (ev (.tmp 84)) w9 := hev.dep 5 84 (by kernel_rfl)
                    dsimp only at e84
                    obtain ⟨v84, hv84⟩ : ∃ v, ev (.tmp 84) = v := ⟨_, rfl⟩
                    rw [hv84] at e84
                    have e90 : (fun v w1 => Big w1 v D) (ev (.tmp 90)) w9 := hev.dep 11 90 (by kernel_rfl)
                    dsimp only at e90
                    obtain ⟨v90, hv90⟩ : ∃ v, ev (.tmp 90) = v := ⟨_, rfl⟩
                    rw [hv90] at e90
                    refine leavesR_call ?_ (HM.out _ _ _ e84 e90)
                    go_simp
                  · obtain rfl := Option.some.inj (show some _ = some o from hi)
                    have e79 : ev (.tmp 79) = (.agg #[.bool b0, .slice p0 n0 c0]) := hev.dep 0 79 (by kernel_rfl)
                    have e91 : (fun v w1 => Big w1 v (vi * D)) (ev (.tmp 91)) w9 := hev.dep 12 91 (by kernel_rfl)
                    dsimp only at e91
                    obtain ⟨v91, hv91⟩ : ∃ v, ev (.tmp 91) = v := ⟨_, rfl⟩
                    rw [hv91] at e91
                    refine leavesR_call ?_ ((HCm.out _ _ _ (e79 ▸ hBg.up hS4) e91).mono fun _ _ h => ⟨h.2, _, h.1, rfl⟩)
                    go_simp
                  · obtain rfl := Option.some.inj (show some _ = some o from hi)
                    have e92 : ev (.tmp 92) = (.int .i64 0) := hev.dep 13 92 (by kernel_rfl)
                    exact leavesR_value (u := .bool false) (by first | (go_simp; done) | (go_simp; exact rfl)) rfl
                  · obtain rfl := Option.some.inj (show some _ = some o from hi)
                    have e93 : ev (.tmp 93) = (.bool false) := hev.dep 14 93 (by kernel_rfl)
                    exact leavesR_value (u := .bool false) (by first | (go_simp; done) | (go_simp; exact rfl)) rfl
                  · obtain rfl := Option.some.inj (show some _ = some o from hi)
                    have e13 := hev.other 13 (by kernel_rfl)
                    simp [Act.eval] at e13
                    exact leavesR_value (u := .slice (some ⟨gF, 0, none⟩) j cz) (by first | (go_simp; done) | (go_simp; exact rfl)) rfl
                  · obtain rfl := Option.some.inj (show some _ = some o from hi)
                    have e15 := hev.other 15 (by kernel_rfl)
                    simp [Act.eval] at e15
                    exact leavesR_value (u := .int .i64 (i : Nat)) (by first | (go_simp; done) | (go_simp; exact rfl)) rfl
                  · obtain rfl := Option.some.inj (show some _ = some o from hi)
                    have e95 : ev (.tmp 95) = (.slice (some ⟨gF, 0, none⟩) j cz) := hev.dep 16 95 (by kernel_rfl)
                    have e96 : ev (.tmp 96) = (.int .i64 (i : Nat)) := hev.dep 17 96 (by kernel_rfl)
                    exact leavesR_value (u := .pointer (some ⟨gF, i * 32, none⟩)) (by first | (go_simp; done) | (go_simp; exact rfl)) rfl
                  · obtain rfl := Option.some.inj (show some _ = some o from hi)
                    have e97 : ev (.tmp 97) = (.pointer (some ⟨gF, i * 32, none⟩)) := hev.dep 18 97 (by kernel_rfl)
                    exact leavesR_value (u := .pointer (some ⟨gF, i * 32 + 16, none⟩)) (by first | (go_simp; done) | (go_simp; exact rfl)) rfl
                  · obtain rfl := Option.some.inj (show some _ = some o from hi)
                    have e98 : ev (.tmp 98) = (.pointer (some ⟨gF, i * 32 + 16, none⟩)) := hev.dep 19 98 (by kernel_rfl)
                    exact leavesR_value (run_ldW rfl e98 (HRi.out _ hS3)) rfl
                  · obtain rfl := Option.some.inj (show some _ = some o from hi)
                    have e13 := hev.other 13 (by kernel_rfl)
                    simp [Act.eval] at e13
                    exact leavesR_value (u := .slice (some ⟨gF, 0, none⟩) j cz) (by first | (go_simp; done) | (go_simp; exact rfl)) rfl
                  · obtain rfl := Option.some.inj (show some _ = some o from hi)
                    have e100 : ev (.tmp 100) = (.slice (some ⟨gF, 0, none⟩) j cz) := hev.dep 21 100 (by kernel_rfl)
                    exact leavesR_value (u := .pointer (some ⟨gF, 0, none⟩)) (by first | (go_simp; done) | (go_simp; exact rfl)) rfl
                  · obtain rfl := Option.some.inj (show some _ = some o from hi)
                    have e101 : ev (.tmp 101) = (.pointer (some ⟨gF, 0, none⟩)) := hev.dep 22 101 (by kernel_rfl)
                    exact leavesR_value (u := .pointer (some ⟨gF, 16, none⟩)) (by first | (go_simp; done) | (go_simp; exact rfl)) rfl
                  · obtain rfl := Option.some.inj (show some _ = some o from hi)
                    have e102 : ev (.tmp 102) = (.pointer (some ⟨gF, 16, none⟩)) := hev.dep 23 102 (by kernel_rfl)
                    exact leavesR_value (run_ldW rfl e102 (HR0.out _ hS3)) rfl
                  · obtain rfl := Option.some.inj (show some _ = some o from hi)
                    have e99 : ev (.tmp 99) = (.agg (cells 16 (limb (enc D)))) := hev.dep 20 99 (by kernel_rfl)
                    have e103 : ev (.tmp 103) = (.agg (cells 16 (limb (enc D)))) := hev.dep 24 103 (by kernel_rfl)
                    exact leavesR_value (run_neS rfl e99 e103 (enc_lt D) _) rfl
                  · obtain rfl := Option.some.inj (show some _ = some o from hi)
                    have e94 : ev (.tmp 94) = (.bool false) := hev.dep 15 94 (by kernel_rfl)
                    have e104 : ev (.tmp 104) = (.bool false) := hev.dep 25 104 (by kernel_rfl)
                    exact leavesR_value (u := .bool false) (by first | (go_simp; done) | (go_simp; exact rfl)) rfl
                  · obtain rfl := Option.some.inj (show some _ = some o from hi)
                    have e105 : ev (.tmp 105) = (.bool false) := hev.dep 26 105 (by kernel_rfl)
                    exact leavesR_value (u := .bool false) (by first | (go_simp; done) | (go_simp; exact rfl)) rfl
                  · obtain rfl := Option.some.inj (show some _ = some o from hi)
                    have e13 := hev.other 13 (by kernel_rfl)
                    simp [Act.eval] at e13
                    exact leavesR_value (u := .slice (some ⟨gF, 0, none⟩) j cz) (by first | (go_simp; done) | (go_simp; exact rfl)) rfl
                  · obtain rfl := Option.some.inj (show some _ = some o from hi)
                    have e15 := hev.other 15 (by kernel_rfl)
                    simp [Act.eval] at e15
                    exact leavesR_value (u := .int .i64 (i : Nat)) (by first | (go_simp; done) | (go_simp; exact rfl)) rfl
                  · obtain rfl := Option.some.inj (show some _ = some o from hi)
                    have e107 : ev (.tmp 107) = (.slice (some ⟨gF, 0, none⟩) j cz) := hev.dep 28 107 (by kernel_rfl)
                    have e108 : ev (.tmp 108) = (.int .i64 (i : Nat)) := hev.dep 29 108 (by kernel_rfl)
                    exact leavesR_value (u := .pointer (some ⟨gF, i * 32, none⟩)) (by first | (go_simp; done) | (go_simp; exact rfl)) rfl
                  · obtain rfl := Option.some.inj (show some _ = some o from hi)
                    have e109 : ev (.tmp 109) = (.pointer (some ⟨gF, i * 32, none⟩)) := hev.dep 30 109 (by kernel_rfl)
                    exact leavesR_value (u := .pointer (some ⟨gF, i * 32 + 16, none⟩)) (by first | (go_simp; done) | (go_simp; exact rfl)) rfl
                  · obtain rfl := Option.some.inj (show some _ = some o from hi)
                    have e110 : ev (.tmp 110) = (.pointer (some ⟨gF, i * 32 + 16, none⟩)) := hev.dep 31 110 (by kernel_rfl)
                    exact leavesR_value (run_ldW rfl e110 (HRi.out _ hS3)) rfl
                  · obtain rfl := Option.some.inj (show some _ = some o from hi)
                    have e111 : ev (.tmp 111) = (.agg (cells 16 (limb (enc D)))) := hev.dep 32 111 (by kernel_rfl)
                    refine leavesR_call ?_ (HBi.out _)
                    go_simp
                  · obtain rfl := Option.some.inj (show some _ = some o from hi)
                    have e112 : (fun v w1 => Big w1 v D) (ev (.tmp 112)) w9 := hev.dep 33 112 (by kernel_rfl)
                    dsimp only at e112
                    obtain ⟨v112, hv112⟩ : ∃ v, ev (.tmp 112) = v := ⟨_, rfl⟩
                    rw [hv112] at e112
                    refine leavesR_call ?_ ((HSg.out _ _ e112).mono fun _ _ h => ⟨h.2, _, h.1, rfl⟩)
                    go_simp
                  · obtain rfl := Option.some.inj (show some _ = some o from hi)
                    have e113 : ev (.tmp 113) = (.int .i64 1) := hev.dep 34 113 (by kernel_rfl)
                    exact leavesR_value (u := .bool false) (by first | (go_simp; done) | (go_simp; exact rfl)) rfl
                  · obtain rfl := Option.some.inj (show some _ = some o from hi)
                    have e106 : ev (.tmp 106) = (.bool false) := hev.dep 27 106 (by kernel_rfl)
                    have e114 : ev (.tmp 114) = (.bool false) := hev.dep 35 114 (by kernel_rfl)
                    exact leavesR_value (u := .bool false) (by first | (go_simp; done) | (go_simp; exact rfl)) rfl
                  · exact absurd (show i + 37 < 37 from (Array.getElem?_eq_some_iff.1 hi).1) (by omega)
                have ⟨hS1, hS2, hS3, hS4, hSB⟩ := hSE
                have q0 : gR 79 = (.agg #[.bool b0, .slice p0 n0 c0]) := hq 0 79 (by decide) (by kernel_rfl)
                have q1 : gR 80 = (.slice (some ad) j c4) := hq 1 80 (by decide) (by kernel_rfl)
                have q2 : gR 81 = (.int .i64 (i : Nat)) := hq 2 81 (by decide) (by kernel_rfl)
                have q3 : gR 82 = (.pointer (some (ad.add i))) := hq 3 82 (by decide) (by kernel_rfl)
                have q4 : gR 83 = (.int .i64 vi) := hq 4 83 (by decide) (by kernel_rfl)
                have q5 : (fun v w1 => Big w1 v vi) (gR 84) wE := hq 5 84 (by decide) (by kernel_rfl)
                dsimp only at q5
                obtain ⟨v84, hv84⟩ : ∃ v, gR 84 = v := ⟨_, rfl⟩
                rw [hv84] at q5
                have q6 : gR 85 = (.slice (some ⟨gF, 0, none⟩) j cz) := hq 6 85 (by decide) (by kernel_rfl)
                have q7 : gR 86 = (.int .i64 (i : Nat)) := hq 7 86 (by decide) (by kernel_rfl)
                have q8 : gR 87 = (.pointer (some ⟨gF, i * 32, none⟩)) := hq 8 87 (by decide) (by kernel_rfl)
                have q9 : gR 88 = (.pointer (some ⟨gF, i * 32 + 16, none⟩)) := hq 9 88 (by decide) (by kernel_rfl)
                have q10 : gR 89 = (.agg (cells 16 (limb (enc D)))) := hq 10 89 (by decide) (by kernel_rfl)
                have q11 : (fun v w1 => Big w1 v D) (gR 90) wE := hq 11 90 (by decide) (by kernel_rfl)
                dsimp only at q11
                obtain ⟨v90, hv90⟩ : ∃ v, gR 90 = v := ⟨_, rfl⟩
                rw [hv90] at q11
                have q12 : (fun v w1 => Big w1 v (vi * D)) (gR 91) wE := hq 12 91 (by decide) (by kernel_rfl)
                dsimp only at q12
                obtain ⟨v91, hv91⟩ : ∃ v, gR 91 = v := ⟨_, rfl⟩
                rw [hv91] at q12
                have q13 : gR 92 = (.int .i64 0) := hq 13 92 (by decide) (by kernel_rfl)
                have q14 : gR 93 = (.bool false) := hq 14 93 (by decide) (by kernel_rfl)
                have q15 : gR 94 = (.bool false) := hq 15 94 (by decide) (by kernel_rfl)
                have q16 : gR 95 = (.slice (some ⟨gF, 0, none⟩) j cz) := hq 16 95 (by decide) (by kernel_rfl)
                have q17 : gR 96 = (.int .i64 (i : Nat)) := hq 17 96 (by decide) (by kernel_rfl)
                have q18 : gR 97 = (.pointer (some ⟨gF, i * 32, none⟩)) := hq 18 97 (by decide) (by kernel_rfl)
                have q19 : gR 98 = (.pointer (some ⟨gF, i * 32 + 16, none⟩)) := hq 19 98 (by decide) (by kernel_rfl)
                have q20 : gR 99 = (.agg (cells 16 (limb (enc D)))) := hq 20 99 (by decide) (by kernel_rfl)
                have q21 : gR 100 = (.slice (some ⟨gF, 0, none⟩) j cz) := hq 21 100 (by decide) (by kernel_rfl)
                have q22 : gR 101 = (.pointer (some ⟨gF, 0, none⟩)) := hq 22 101 (by decide) (by kernel_rfl)
                have q23 : gR 102 = (.pointer (some ⟨gF, 16, none⟩)) := hq 23 102 (by decide) (by kernel_rfl)
                have q24 : gR 103 = (.agg (cells 16 (limb (enc D)))) := hq 24 103 (by decide) (by kernel_rfl)
                have q25 : gR 104 = (.bool false) := hq 25 104 (by decide) (by kernel_rfl)
                have q26 : gR 105 = (.bool false) := hq 26 105 (by decide) (by kernel_rfl)
                have q27 : gR 106 = (.bool false) := hq 27 106 (by decide) (by kernel_rfl)
                have q28 : gR 107 = (.slice (some ⟨gF, 0, none⟩) j cz) := hq 28 107 (by decide) (by kernel_rfl)
                have q29 : gR 108 = (.int .i64 (i : Nat)) := hq 29 108 (by decide) (by kernel_rfl)
                have q30 : gR 109 = (.pointer (some ⟨gF, i * 32, none⟩)) := hq 30 109 (by decide) (by kernel_rfl)
                have q31 : gR 110 = (.pointer (some ⟨gF, i * 32 + 16, none⟩)) := hq 31 110 (by decide) (by kernel_rfl)
                have q32 : gR 111 = (.agg (cells 16 (limb (enc D)))) := hq 32 111 (by decide) (by kernel_rfl)
                have q33 : (fun v w1 => Big w1 v D) (gR 112) wE := hq 33 112 (by decide) (by kernel_rfl)
                dsimp only at q33
                obtain ⟨v112, hv112⟩ : ∃ v, gR 112 = v := ⟨_, rfl⟩
                rw [hv112] at q33
                have q34 : gR 113 = (.int .i64 1) := hq 34 113 (by decide) (by kernel_rfl)
                have q35 : gR 114 = (.bool false) := hq 35 114 (by decide) (by kernel_rfl)
                have q36 : gR 115 = (.bool false) := hq 36 115 (by decide) (by kernel_rfl)
                refine ⟨fun _ => ?_, fun o ho => by simp at ho⟩
                simp only [putL, List.map_cons, List.map_nil, q0, q1, q2, q3, q4, hv84, q6, q7, q8, q9, q10, hv90, hv91, q13, q14, q15, q16, q17, q18, q19, q20, q21, q22, q23, q24, q25, q26, q27, q28, q29, q30, q31, q32, hv112, q34, q35, q36, Act.put, pu1, pu2, pu3]
                clear hq hSE q0 q1 q2 q3 q4 q6 q7 q8 q9 q10 q13 q14 q15 q16 q17 q18 q19 q20 q21 q22 q23 q24 q25 q26 q27 q28 q29 q30 q31 q32 q34 q35 q36
                clear q5 q11 q12 q33 hS1 hS2 hS3 hSB huE
                have hU9 := hu.trans hS4
                clear hS4
                go_wp2_with fail
                go_roundg (j - (i + 1))
                case measure => omega
                case rel => exact ⟨i + 1, hlt, Nat.le_refl _, rfl, hU9⟩
          · obtain rfl : i = m := by omega
            go_wp2_with fail
            go_ret
            exact ⟨rfl, hU5.trans hu⟩
      · have hz := hz5 h0
        injection hz with z1 z2 z3
        clear hz5
        have hl0 : ((E.length : Nat) : Int) = 0 := by omega
        clear z2 hE h0
        generalize E.length = eL at *
        obtain rfl : eL = 0 := by omega
        go_wp2_with fail
        go_ret
        exact ⟨rfl, hU5⟩
    · have d40 : decide ((40 : Int) < (hl.length : Int)) = true := decide_eq_true (by omega)
      clear hhc h16 hg hn hd
      go_enter Tryz.func9, Tryz.ntmps9
      go_wp2_with (first
        | (go_at_call 30; (with_reducible refine (HK.out _ (Up.refl _)).mono ?_); rintro r w1 ⟨rfl, hu1⟩))
      go_ret
      exact ⟨rfl, hu1⟩
  · have d60 : decide ((60 : Int) < (hs.length : Int)) = true := decide_eq_true (by omega)
    clear hhc h16 hg hn hd
    go_enter Tryz.func9, Tryz.ntmps9
    go_wp2_with (first
      | (go_at_call 30; (with_reducible refine (HK.out _ (Up.refl _)).mono ?_); rintro r w1 ⟨rfl, hu1⟩))
    go_ret
    exact ⟨rfl, hu1⟩
theorem back_row {w : World} {a0 a1 : Int} {a4 : Bool} {p2 p3 : Option Addr} {len2 cap2 len3 cap3 : Nat} {z2 z3 : List Int} (hg : Glob w) (w0 : (Lit.int .u8 a0).wf = true) (w1 : (Lit.int .u16 a1).wf = true)
    (w2 : IsRowX .i16 w p2 len2 cap2 z2) (w3 : IsRowX .i64 w p3 len3 cap3 z3) :
    Calls Tryz.prog 9 #[.int .u8 a0, .int .u16 a1, .slice p2 len2 cap2, .slice p3 len3 cap3, .bool a4] w fun r w' => r = .returned (.bool true) ∧ Up w w' := by
  obtain ⟨n, rfl, hn⟩ := wf_nat (m := 255) w0 IntKind.min_u8 IntKind.max_u8
  obtain ⟨d, rfl, hd⟩ := wf_nat (m := 65535) w1 IntKind.min_u16 IntKind.max_u16
  exact back_w n d a4 hg hn hd (vh_row w2).1 (vh_row w2).2 (vw_row w3).1 (vw_row w3).2
end Go.Proofs.YtjoenldfjggciaaGreatDoor
namespace Go.Proofs.YtjoenldfjggciaaGreatDoor
open Go.ChangeShapes Go.WideShapes Go.RowKit
set_option maxRecDepth 100000
theorem own4 : ownKnob Tryz.prog.godebug = none := by kernel_rfl
theorem et4 : Tryz.prog.globalNamed "errors.errorType" = some 0 := by kernel_rfl
theorem rt4 : (Tryz.prog.cutTypes.find? (·.1 == "internal/reflectlite.rtype")).map (·.2) = some 198 := by kernel_rfl
theorem oneRow4 : ((List.range 250).filter fun t => Tryz.prog.rowNamed t [101, 114, 114, 111, 114]) = [35] := by kernel_rfl
theorem size4 : Tryz.prog.types.size = 250 := by kernel_rfl
theorem glob_of_laid {W : World} (h : laidMetH Tryz.prog [("errors.errorType", Rows.laid_errors_errorType)] W) : Glob W := by
  have h' : laidMet Tryz.prog [] W ∧ handlesMet Tryz.prog [("errors.errorType", Rows.laid_errors_errorType)] W := h
  obtain ⟨name, u, ty, e1, e2, e3, e4, e5⟩ := h'.2 _ (List.mem_singleton.2 rfl)
  have en : name = [101, 114, 114, 111, 114] := (Option.some.inj e1).symm
  subst en
  obtain rfl := Option.some.inj (rt4.symm.trans e2)
  have hm : ty ∈ (List.range 250).filter fun t => Tryz.prog.rowNamed t [101, 114, 114, 111, 114] := List.mem_filter.2 ⟨List.mem_range.2 (by rw [← size4]; exact e3), e4⟩
  rw [oneRow4] at hm
  obtain rfl := List.mem_singleton.1 hm
  have hh : typeHandle Tryz.prog 35 = .pointer (some ⟨3, 35, none⟩) := by kernel_rfl
  rw [hh] at e5
  unfold Glob
  simpa using World.var?_cell et4 e5 0
noncomputable def laidWorld (os : Os) : World :=
  let w0 := World.holding Tryz.prog os ⟨#[], #[], []⟩
  { w0 with heap := w0.heap.modify 0 fun
      | .cells _ t frozen => .cells #[.iface 198 (.agg #[.pointer (some ⟨3, 35, none⟩)])] t frozen
      | o => o }
theorem laidWorld_met (os : Os) (args : Array Value) : laidMetH Tryz.prog [("errors.errorType", Rows.laid_errors_errorType)] ((laidWorld os).forCall (fun _ _ => 0) ⟨#[], args, []⟩).memory :=
  laidMetH_of_parts (laidMet_nil _ _) (by kernel_rfl)
end Go.Proofs.YtjoenldfjggciaaGreatDoor
