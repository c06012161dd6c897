import Derived.Test.YtahifcannoekhaaGreatDoorPe
import Derived.Laws.MakeOwn
import Derived.Deep.MidRow
import Derived.Laws.CopyRow
namespace Go.Proofs.YtahifcannoekhaaGreatDoor
open Go Go.RowKit
set_option maxRecDepth 100000
def Wu (w : World) (B : Nat) (v : Value) (n : Nat) : Prop := Ws w v n /\ ∀ a k c, v = .slice (some a) k c -> 0 < k -> a.block < B
theorem Wu.below {w w' : World} {B : Nat} {v : Value} {n : Nat} (h : Wu w B v n) (hb : Below B w w') : Wu w' B v n := by
 obtain ⟨⟨l, h1, h2⟩, h3⟩ := h
 refine ⟨⟨l, ?_, h2⟩, h3⟩
 rcases h1 with h1 | ⟨g, cap, C, e, hc, hB, ht⟩
 ·exact .inl h1
 ·rcases Nat.eq_zero_or_pos l.length with h0 | h0
  ·exact .inl ⟨List.length_eq_zero_iff.1 h0, _, _, by rw [e, h0]⟩
  ·refine .inr ⟨g, cap, C, e, hc, ?_, ht⟩
   unfold Blk at *
   rw [hb.block g (h3 _ _ _ e h0)]
   exact hB
theorem Wu.up {w w' : World} {B : Nat} {v : Value} {n : Nat} (h : Wu w B v n) (hu : Up w w') : Wu w' B v n := ⟨h.1.up hu, h.2⟩
theorem set_at {C : Array Value} {r : Nat} (v : Value) (h : r < C.size) : (C.setIfInBounds r v)[r]? = some v := by simp [h]
theorem set_ne {C : Array Value} {r q : Nat} (v : Value) (h : q ≠ r) : (C.setIfInBounds r v)[q]? = C[q]? := by rw [Array.getElem?_setIfInBounds_ne (Ne.symm h)]
theorem Wu.mono {w : World} {B B' : Nat} {v : Value} {n : Nat} (h : Wu w B v n) (hb : B <= B') : Wu w B' v n := ⟨h.1, fun a k c e h0 => Nat.lt_of_lt_of_le (h.2 a k c e h0) hb⟩
theorem OwnWs.wu {w : World} {b : Nat} {v : Value} {n : Nat} (h : OwnWs w b v n) : Wu w w.heap.size v n := by
 refine ⟨h.ws, fun a k c e h0 => ?_⟩
 obtain ⟨l, ⟨_, ⟨rfl, _⟩ | ⟨g, cap, cur, rfl, _, hB, _⟩⟩, _⟩ := h
 ·cases e
 ·injection e with e1
  injection e1 with e1
  subst e1
  exact (Array.getElem?_eq_some_iff.1 hB).1
theorem OwnWs.setCell {w : World} {base n : Nat} {v : Value} (h : OwnWs w base v n) {a : Addr} (ha : a.block < base) (u : Value) : OwnWs (w.setCell a u) base v n := by
 obtain ⟨l, h1, h2⟩ := h
 exact ⟨l, ownsRow_setCell_below h1 ha u, h2⟩
theorem grown_cell {w : World} {b i : Nat} (v : Value) : w.grownBy (w.setCell ⟨b, i, none⟩ v) (some b) :=
 ⟨rfl, rfl, rfl, by simp [World.setCell], fun k _ hne => Below.heap_setCell _ _ _ _ (fun e => hne (by rw [e]))⟩
theorem grown_up {w w' : World} {b : Nat} (h : Up w w') : w.grownBy w' (some b) := ⟨h.os, h.tape, h.output, h.size, fun k hk _ => h.block k hk⟩
theorem grown_trans {w1 w2 w3 : World} {b : Nat} (h : w1.grownBy w2 (some b)) (k : w2.grownBy w3 (some b)) : w1.grownBy w3 (some b) :=
 ⟨k.os.trans h.os, k.tape.trans h.tape, k.output.trans h.output, Nat.le_trans h.size k.size, fun i hi hne => (k.block i (Nat.lt_of_lt_of_le hi h.size) hne).trans (h.block i hi hne)⟩
theorem Wu.kept {w w' : World} {b B : Nat} {t : TypeId} {D : Array Value} (hb : Blk w b t D) (ht : t ≠ 107) (hg : w.grownBy w' (some b)) {v : Value} {n : Nat} (h : Wu w B v n) : Wu w' B v n := ⟨h.1.kept hb ht hg, h.2⟩
theorem Blk.ahead {w w' : World} {b B : Nat} {t : TypeId} {C : Array Value} (h : Blk w b t C) (hb : Below B w w') (hlt : b < B) : Blk w' b t C := by
 unfold Blk at *
 rw [hb.block b hlt]
 exact h
def Bel (B : Nat) (w w' : World) : Prop := B <= w'.heap.size /\ Below B w w'
theorem Bel.up {B : Nat} {a b c : World} (h : Bel B a b) (hu : Up b c) : Bel B a c := ⟨Nat.le_trans h.1 hu.size, Below.trans h.2 (Below.mono hu h.1)⟩
theorem opUw {P : Program} {ops : Array Oper} {Q : Exit -> Act -> World -> Prop} {S : World -> Prop} {req : Nat -> Bool} {a : Act} {w : World} {id : Nat} (hSup : ∀ w w', S w -> Up w w' -> S w') (hS : S w)
   (h : ∀ w', Up w w' -> S w' -> Hid (∀ w w', S w -> Up w w' -> S w') -> wpAnyU P .any ops Q S req ops.size (Array.replicate ops.size false) a w')
   (hm : P.follows .mixedOrders = true := by kernel_rfl) : (Code.region id ops true).wp P Q a w := wp_region_up hm (h _ (Up.drew w) (hSup _ _ hS (Up.drew w)) hSup)
theorem rangeW_up {w w' : World} {g o : Nat} {l : List Value} (hu : Up w w') (h : w.rangeAt g o l) : w'.rangeAt g o l := fun j v hv => hu.cell (h j v hv)
theorem bsW_wp {o : Oper} {a : Act} {w : World} {K : Act -> World -> Prop} {Q : Exit -> Act -> World -> Prop} {s : Tmp} {z : Int} (ho : o.op = .buildSlice 124 1 #[(0, .tmp s)]) (hs : a.eval (.tmp s) = .agg (cells 16 (limb (enc z))))
   (h : K (a.put o.dst (.slice (some ⟨w.heap.size, 0, none⟩) 1 1)) (w.alloc (.cells (cells 16 (limb (enc z))) 107))) : o.wp Tryz.prog a w K Q := by
 obtain ⟨i0, hi0, he⟩ := Option.map_eq_some_iff.1 infoWs
 simp only [Prod.mk.injEq] at he
 obtain ⟨z0, hz0, hzs⟩ := Option.map_eq_some_iff.1 he.1
 refine wp_buildSlice 124 107 1 _ ho (cells 16 (limb (enc z))) i0 z0 undWs hi0 hz0 (by rw [he.2.1]; decide) (by rw [he.2.1]; decide) ?_ h
 simp only [List.map_toArray, List.map_cons, List.map_nil, hs, he.2.1]
 exact fill_one _ _
theorem appWs_wp {o : Oper} {a : Act} {w : World} {K : Act -> World -> Prop} {Q : Exit -> Act -> World -> Prop} {s u : Operand} {base g c n : Nat} {v : Value} {z : Int}
   (ho : o.op = .call { callee := .builtin .append, args := #[s, u], argTypes := #[124, 124] })
   (hs : a.eval s = v) (hu : a.eval u = .slice (some ⟨g, 0, none⟩) 1 c) (hown : OwnWs w base v n) (hV : w.rangeAt g 0 (wcs [z])) (hz : InR z) (hbase : base <= w.heap.size) (hn : n < 1000000)
   (h : ∀ v' w', OwnWs w' base v' (n + 1) -> w.grownBy w' v.ownBlock -> Below base w w' -> K (a.put o.dst v') w') : o.wp Tryz.prog a w K Q := by
 obtain ⟨l, h1, rfl, h3⟩ := hown
 obtain ⟨i0, hi0, he⟩ := Option.map_eq_some_iff.1 infoWs
 simp only [Prod.mk.injEq] at he
 obtain ⟨z0, hz0, hzs⟩ := Option.map_eq_some_iff.1 he.1
 have hlt := World.ownsRow.lt h1
 refine wp_append_own w s u 124 ho base 107 i0 z0 16 128 undWs hi0 hz0 he.2.1 he.2.2 hzs (by decide) v l.length (wcs l) hs h1 ⟨g, 0, none⟩ 1 c (wcs [z]) hu (wcs_len [z]) (fun j x hx => by rw [Addr.add_mid]; exact hV j x hx) wcs_one (by unfold maxLen; omega) (by omega) hbase ?_
 intro v' w' g1 g2 _
 refine h v' w' ⟨l ++ [z], by unfold OwnW; rw [List.length_append, wcs_append]; exact g1, by simp, h3.app hz⟩ g2 ⟨g2.os, g2.tape, g2.output, g2.size, fun k hk => g2.block k (by omega) fun e => ?_⟩
 have := hlt k e.symm
 omega
theorem mkRs {ops : Array Oper} {rest : List Oper} {Q : Exit -> Act -> World -> Prop} {a : Act} {w : World} {d : Option Tmp} {l : Tmp} {ty : TypeId} {pos : String} {af : Array Edge} {n : Nat} (hl : a.eval (.tmp l) = .int .i64 (n : Nat)) (hn : n < 1000)
   (h : ∀ C w', C.size = n -> (∀ i, i < n -> C[i]? = some (.slice none 0 0)) -> Blk w' w.heap.size 124 C -> Up w w' -> wpList Tryz.prog ops Q rest (a.put d (.slice (some ⟨w.heap.size, 0, none⟩) n n)) w') :
   wpList Tryz.prog ops Q ({ dst := d, op := .makeSlice 122 (.tmp l) (.tmp l), type := ty, pos := pos, after := af, guard := none } :: rest) a w := by
 refine wpList_plain rfl fun _ hK => ?_
 obtain ⟨i, hq, hi⟩ := Option.map_eq_some_iff.1 infoRs
 simp only [Prod.mk.injEq] at hi
 have hr := run_make (P := Tryz.prog) (w := w) 122 124 i (.slice none 0 0) undRs hq hi.1 .i64 .i64 n n (by omega) (by omega) (by rw [hi.2.2]; omega) (by omega)
 rw [hi.2.1, Nat.mul_one, Int.toNat_natCast] at hr
 unfold Oper.wp execOp
 simp only [hl, Sem.run_bind, Sem.run_pure, Result.andThen_ok, hr]
 refine hK _ _ (h (madeCells (Value.slice none 0 0).cells n) _ ?_ (fun i hi => ?_) (heap_alloc_new _ _) (Up.alloc _ _))
 ·simp [madeCells]
 ·simp [madeCells, Value.cells, hi, Nat.mod_one]
theorem dm_div {r j n : Nat} (hj : j < n) : (r * n + j) / n = r /\ (r * n + j) % n = j := by
 have h0 : 0 < n := by omega
 rw [Nat.mul_comm]
 refine ⟨?_, ?_⟩
 ·rw [Nat.mul_add_div h0, Nat.div_eq_of_lt hj, Nat.add_zero]
 ·rw [Nat.mul_add_mod, Nat.mod_eq_of_lt hj]
theorem dm_lt {r j n : Nat} (hr : r < n) (hj : j < n) : r * n + j < n * n := by
 have h1 : (r + 1) * n <= n * n := Nat.mul_le_mul_right _ hr
 rw [Nat.succ_mul] at h1
 omega
set_option maxHeartbeats 16000000 in
theorem cgsquare_any {v : Value} {n : Nat} {l : List Int} {w : World} (hm : Sm w v n l) (hR : rt n l = true) :
   Calls Tryz.prog 65 #[v] w fun r w' => Up w w' /\ ∃ z, r = .returned z /\ Rs w' z n n := by
 have n8 : n <= 8 := by have := (rt_spec hR).2.1; omega
 have HAT := hid (fun (i j : Nat) (hi : i < n) (hj : j < n) w' (hu : Up w w') => at_right (hm.up hu) hR hi hj)
 have HO := hid (fun (i j : Nat) (hi : i < n) (hj : j < n) => (⟨of_w (ent_i64 hR hi hj), fun w => of_any (ent n l i j) (ent_i64 hR hi hj).1 (ent_i64 hR hi hj).2 w⟩ : InR (ent n l i j) /\ _))
 obtain ⟨s, rfl, ⟨p, cap, rfl, hcap, hc⟩, hN, hl, hlen⟩ := hm
 obtain ⟨wJ, hwJ⟩ : ∃ x, w.alloc (.cells #[.int .i64 (n : Int), .slice p l.length cap] 24) = x := ⟨_, rfl⟩
 have hB : Blk wJ w.heap.size 24 #[.int .i64 (n : Int), .slice p l.length cap] := by rw [<- hwJ]; exact Blk.new _ _ rfl
 have hU : Up w wJ := by rw [<- hwJ]; exact Up.alloc _ _
 have hc0 := hB.cell 0 rfl
 have hnn : n * n <= 64 := Nat.mul_le_mul n8 n8
 have em : IntKind.i64.wrap ((n : Int) * (n : Int)) = ((n * n : Nat) : Int) := by rw [<- Int.natCast_mul]; exact IntWalk.i64_in _ (by omega)
 clear hc hl hlen hR hN
 obtain ⟨b0, hb0⟩ : ∃ y, w.heap.size = y := ⟨_, rfl⟩
 rw [hb0] at hB hc0
 go_enter Tryz.func65, Tryz.ntmps65
 go_wp2_with (first
  | ((with_reducible apply mkRs (n := n)); exact rfl; (focus omega); rintro C0 w2 hC1 hC2 hBR hu2; have hc2 := (hB.up hu2).cell 0 rfl))
 obtain ⟨gR, hgR⟩ : ∃ y, wJ.heap.size = y := ⟨_, rfl⟩
 rw [hgR] at hBR ⊢
 have hlR := hBR.lt
 clear hwJ hc0 hc2 hb0
 go_loopg [15] (n * n) (fun g ti wr => ∃ (r j : Nat) (C : Array Value) (B : Nat), (r < n /\ j < n \/ r = n /\ j = 0) /\ n * n - (r * n + j) <= g /\ ti = .int .i64 ((r * n + j : Nat) : Int) /\ Blk wr gR 124 C /\ C.size = n /\ gR < B /\ B <= wr.heap.size /\
  (∀ q, q < r -> ∃ s, C[q]? = some s /\ Wu wr B s n) /\ (r < n -> ∃ s, C[r]? = some s /\ OwnWs wr B s j) /\ (∀ q, r < q -> q < n -> C[q]? = some (.slice none 0 0)) /\ Up wJ wr)
 case atStart => exact ⟨0, 0, C0, w2.heap.size, by omega, by omega, by simp, hBR, hC1, hlR, Nat.le_refl _, fun q hq => absurd hq (Nat.not_lt_zero _), fun h0 => ⟨_, hC2 0 h0, OwnWs.nil _ _⟩, fun q _ hq => hC2 q hq, hu2⟩
 case round =>
  clear hBR hC1 hC2 hlR hu2
  obtain ⟨r, j, C, B, hrj, hg, rfl, hBR, hC1, hgB, hBs, hold, hcur, hnew, hu⟩ := hrel
  have hgS : wJ.heap.size <= gR := by omega
  by_cases hlt : r < n
  ·have hj : j < n := by omega
   obtain ⟨s, hs, hO⟩ := hcur hlt
   obtain ⟨ps, cs, rfl⟩ := hO.slice
   have hii := dm_lt hlt hj
   obtain ⟨ed, er⟩ := dm_div (r := r) hj
   have HSt : Hid (∀ i, r * n + j = i -> (j + 1 < n -> i + 1 = r * n + (j + 1)) /\ (j + 1 = n -> i + 1 = (r + 1) * n + 0)) := hid (fun i hi => ⟨fun _ => by omega, fun h => by rw [Nat.succ_mul]; omega⟩)
   obtain ⟨i, hi⟩ : ∃ i, r * n + j = i := ⟨_, rfl⟩
   have HSt := hid (HSt.out i hi)
   rw [hi] at hii ed er hg ⊢
   clear hi
   have eq1 : (i : Int).tdiv (n : Int) = (r : Nat) := by rw [<- Int.ofNat_tdiv, ed]
   have eq2 : (i : Int).tmod (n : Int) = (j : Nat) := by rw [<- Int.ofNat_tmod, er]
   have w1 : IntKind.i64.wrap (r : Int) = (r : Int) := IntWalk.i64_in _ (by omega)
   have w2 : IntKind.i64.wrap (j : Int) = (j : Int) := IntWalk.i64_in _ (by omega)
   have ez : ¬ n = 0 := by omega
   have e1 : IntKind.i64.wrap ((i : Int) + 1) = (i : Int) + 1 := IntWalk.i64_in _ (by omega)
   have HA := hid (fun w' (hu' : Up wr w') => HAT.out r j hlt hj w' (hU.trans (hu.trans hu')))
   obtain ⟨hz, hOf⟩ := HO.out r j hlt hj
   have HOf := hid hOf
   have HZ := hid hz
   have hBr := hB.up hu
   have hc0 : wr.cell? ⟨b0, 0, none⟩ = some (.int .i64 (n : Int)) := hBr.cell 0 rfl
   have hd : decide ((i : Int) < (n : Int) * (n : Int)) = true := decide_eq_true (by rw [<- Int.natCast_mul]; omega)
   have hcx := hBR.cell r hs
   clear hOf hz ed er
   obtain ⟨z, hz⟩ : ∃ z, ent n l r j = z := ⟨_, rfl⟩
   rw [hz] at HA HOf HZ
   clear hz
   go_wp2_with fail
   refine opU (S := (fun wq => Blk wq b0 24 #[.int .i64 (n : Int), .slice p l.length cap] /\ wq.cell? ⟨b0, 0, none⟩ = some (.int .i64 (n : Int)) /\ Up wr wq /\ Below w.heap.size w wq)) (req := (fun _ => true)) (fun _ _ h hu => ⟨(h.1).up hu, hu.cell (h.2.1), (h.2.2.1).trans hu, below_up (h.2.2.2) hu⟩) ⟨gBlk, (by first | assumption | (apply Blk.cell; exact gBlk; exact rfl)), (by first | exact Up.refl _ | assumption), gUp⟩ (fun wS hSS hSu => ?_)
   have ⟨hS1, hS2, hS3, hSB⟩ := hSS
   refine tkT 0 (some 19) rfl hSu hSS ?_ (hy := fun w' hSw => run_ldM rfl rfl hSw.1 rfl)
   refine tkP 1 (some 20) hSu ?_
   refine tkP 2 (some 21) hSu ?_
   refine tkT 3 (some 22) rfl hSu hSS ?_ (hy := fun w' hSw => by ((try dsimp only at hSw); (try obtain ⟨_, _, _, _⟩ := hSw); go_simp; (try exact rfl)))
   refine tkO 4 (some 23) rfl hSu ?_ (hy := fun w' => (by (go_simp; (try exact rfl))))
   refine tkP 5 (some 24) hSu ?_
   refine tkP 6 (some 25) hSu ?_
   refine tkT 7 (some 26) rfl hSu hSS ?_ (hy := fun w' hSw => by ((try dsimp only at hSw); (try obtain ⟨_, _, _, _⟩ := hSw); go_simp; (try exact rfl)))
   refine tkO 8 (some 27) rfl hSu ?_ (hy := fun w' => (by (go_simp; (try exact rfl))))
   refine tkC 9 (some 28) rfl hSu hSS ?_ (hy := fun w' hSw => (HA.out _ hSw.2.2.1))
   refine tkP 10 (some 18) hSu ?_
   refine tkP 11 (some 29) hSu ?_
   refine tkP 12 (some 30) hSu ?_
   refine tkP 13 (some 5) hSu ?_
   refine tkP 14 (some 6) hSu ?_
   refine wpAnyU_done (by kernel_rfl) (fun wF huE => ?_) _
   have hx5 := hS3.trans huE
   clear hS1 hS2 hS3 hSB hSS huE hc0 hcx hBr
   obtain ⟨w5, hw5⟩ : ∃ x, wF = x := ⟨_, rfl⟩
   rw [hw5] at hx5 ⊢
   clear hw5
   have hB5 := hB.up (hu.trans hx5)
   have hc0 : w5.cell? ⟨b0, 0, none⟩ = some (.int .i64 (n : Int)) := hB5.cell 0 rfl
   have hBR5 := hBR.up hx5
   have hcx := hBR5.cell r hs
   have hO5 := hO.up hx5
   have hs5 := hx5.size
   have hu5 := hu.trans hx5
   clear hBR hO
   go_wp2_with fail
   have hBl : Bel B w5 w5 := ⟨by omega, Below.refl _ _⟩
   have hb0B : b0 < B := by have := hB.lt; omega
   refine opUw (S := (fun wq => wq.cell? ⟨b0, 0, none⟩ = some (.int .i64 (n : Int)) /\ wq.cell? ⟨gR, r, none⟩ = some (.slice ps j cs) /\ Bel B w5 wq)) (req := (fun j => j != 17)) (fun _ _ h hu => ⟨hu.cell (h.1), hu.cell (h.2.1), Bel.up (h.2.2) hu⟩) ⟨(by first | assumption | (apply Blk.cell; exact gBlk; exact rfl)), (by first | assumption | (apply Blk.cell; exact gBlk; exact rfl)), (by assumption)⟩ (fun wS hwS0 hSS hSu => ?_)
   have ⟨hS1, hS2, hSB⟩ := hSS
   refine tkP 0 (some 31) hSu ?_
   refine tkP 1 (some 32) hSu ?_
   refine tkP 2 (some 33) hSu ?_
   refine tkT 3 (some 34) rfl hSu hSS ?_ (hy := fun w' hSw => by ((try dsimp only at hSw); (try obtain ⟨_, _, _⟩ := hSw); go_simp; (try exact rfl)))
   refine tkO 4 (some 35) rfl hSu ?_ (hy := fun w' => (by (go_simp; (try exact rfl))))
   refine tkP 5 (some 36) hSu ?_
   refine tkP 6 (some 37) hSu ?_
   refine tkP 7 (some 38) hSu ?_
   refine tkT 8 (some 39) rfl hSu hSS ?_ (hy := fun w' hSw => by ((try dsimp only at hSw); (try obtain ⟨_, _, _⟩ := hSw); go_simp; (try exact rfl)))
   refine tkO 9 (some 40) rfl hSu ?_ (hy := fun w' => (by (go_simp; (try exact rfl))))
   refine tkP 10 (some 41) hSu ?_
   refine tkT 11 (some 42) rfl hSu hSS ?_ (hy := fun w' hSw => by ((try dsimp only at hSw); (try obtain ⟨_, _, _⟩ := hSw); go_simp; (try exact rfl)))
   refine tkP 12 (some 43) hSu ?_
   refine tkC 13 (some 44) rfl hSu hSS ?_ (hy := fun w' hSw => (HOf.out _))
   refine wpAnyU_one (i := 14) rfl (by kernel_rfl) (by rfl) fun w6 hw6 => ?_
   refine bsW_wp (z := z) rfl rfl ?_
   refine ⟨fun _ hs => hSu.out _ _ hs (Up.alloc _ _), ?_⟩
   try simp only [Act.put, pu1]
   refine wpAnyU_one (i := 15) rfl (by kernel_rfl) (by rfl) fun w7 hw7 => ?_
   have hx7 := hwS0.trans (hw6.trans ((Up.alloc _ _).trans hw7))
   have hs7 := hx7.size
   refine appWs_wp (z := z) (n := j) rfl rfl rfl (hO5.up hx7) (rangeW_up hw7 (one_range rfl)) HZ.out (by omega) (by omega) ?_
   rintro v8 w8 hO8 - hb8
   refine ⟨fun _ hs => ⟨(Below.cell hb8 hb0B).trans hs.1, (Below.cell hb8 hgB).trans hs.2.1, Nat.le_trans hs.2.2.1 hb8.size, Below.trans hs.2.2.2 hb8⟩, ?_⟩
   obtain ⟨p8, c8, rfl⟩ := hO8.slice
   have hu8 : Below B w5 w8 := Below.trans (Below.mono hx7 (by omega)) hb8
   try simp only [Act.put]
   refine tkP 16 (some 47) hSu ?_
   refine wpAnyU_one (i := 17) rfl (by kernel_rfl) (by rfl) fun w9 hw9 => ?_
   have hu9 : Below B w5 w9 := Below.trans hu8 (Below.mono hw9 (by have := hu8.size; omega))
   have hB9 := hBR5.ahead hu9 hgB
   have hcW := hB9.cell r hs
   have hfW := hB9.frozen r
   go_simp
   clear hcW hfW
   refine wpAnyU_done (by kernel_rfl) (fun wF huE => ?_) _
   have hBF := (hB9.set r (.slice p8 (j + 1) c8)).up huE
   have hOF := ((hO8.up hw9).setCell (a := ⟨gR, r, none⟩) hgB (.slice p8 (j + 1) c8)).up huE
   have huF : Up wJ wF := Below.trans ((Below.trans hu5 (Below.mono hu9 (by omega))).setCell (p := ⟨gR, r, none⟩) hgS (.slice p8 (j + 1) c8)) (Below.mono huE (by have := hu9.size; have := hu5.size; simp [World.setCell]; omega))
   have hoF : ∀ q, q < r -> ∃ s, (C.setIfInBounds r (.slice p8 (j + 1) c8))[q]? = some s /\ Wu wF B s n := fun q hq => by
    obtain ⟨s, h1, h2⟩ := hold q hq
    exact ⟨s, by rw [set_ne _ (by omega)]; exact h1, ((((h2.up hx5).below hu9).kept hB9 (by decide) (grown_cell _)).up huE)⟩
   have hnF : ∀ q, r < q -> q < n -> (C.setIfInBounds r (.slice p8 (j + 1) c8))[q]? = some (.slice none 0 0) := fun q h1 h2 => by rw [set_ne _ (by omega)]; exact hnew q h1 h2
   have hcF := set_at (C := C) (r := r) (.slice p8 (j + 1) c8) (by omega)
   have hsF : (C.setIfInBounds r (.slice p8 (j + 1) c8)).size = n := by rw [Array.size_setIfInBounds]; exact hC1
   have hzF : B <= wF.heap.size := by have := huF.size; have h1 := huE.size; have h2 := hu9.size; simp [World.setCell] at h1; omega
   generalize C.setIfInBounds r (.slice p8 (j + 1) c8) = CF at *
   have hW := hOF.wu
   clear hu9 hu8 hx7 hx5 hB9 hO8 hb8 hw9 hw7 hw6 hwS0 huE hBR5 hO5 hold hnew hcx hc0 hs hSS hSu hS1 hS2 hSB hBl hB5
   obtain ⟨wK, hwK⟩ : ∃ x, wF = x := ⟨_, rfl⟩
   rw [hwK] at hBF hOF huF hoF hzF hW ⊢
   clear hwK
   go_wp2_with fail
   go_roundg (n * n - (i + 1))
   case measure => omega
   case rel =>
    by_cases hj1 : j + 1 < n
    ·exact ⟨r, j + 1, CF, B, by omega, by rw [<- HSt.out.1 hj1]; exact Nat.le_refl _, by rw [<- HSt.out.1 hj1]; simp, hBF, hsF, hgB, hzF, hoF, fun _ => ⟨_, hcF, hOF⟩, hnF, huF⟩
    ·have hj2 : j + 1 = n := by omega
     refine ⟨r + 1, 0, CF, wK.heap.size, by omega, by rw [<- HSt.out.2 hj2]; exact Nat.le_refl _, by rw [<- HSt.out.2 hj2]; simp, hBF, hsF, hBF.lt, Nat.le_refl _, fun q hq => ?_, fun h0 => ⟨_, hnF (r + 1) (by omega) h0, OwnWs.nil _ _⟩, fun q h1 h2 => hnF q (by omega) h2, huF⟩
     by_cases hqr : q < r
     ·obtain ⟨s, h1, h2⟩ := hoF q hqr
      exact ⟨s, h1, h2.mono hzF⟩
     ·obtain rfl : q = r := by omega
      exact ⟨_, hcF, hj2 ▸ hW⟩
  ·obtain ⟨rfl, rfl⟩ : r = n /\ j = 0 := by omega
   have hRs : Rs wr (.slice (some ⟨gR, 0, none⟩) r r) r r := .inr ⟨gR, r, C, rfl, hBR, fun q hq => by
    obtain ⟨s, h1, h2⟩ := hold q hq
    exact ⟨s, h1, h2.1⟩⟩
   go_wp2_with fail
   go_ret
   exact ⟨hU.trans hu, _, rfl, hRs⟩
def nrL (n : Nat) (l x : List Int) : List Int := mk n fun i => nrN (slD n l) (slX n l x i)
def neC (N : Int) (l x : List Int) : Int := if slC N l x = 0 then (if (nrL N.toNat l x).all vfit = true then 0 else 21) else slC N l x
def neL (N : Int) (l x : List Int) : List Int := if neC N l x = 0 then nrL N.toNat l x else []
def NearPost (w : World) (N : Int) (l x : List Int) (r : Ending) (w' : World) : Prop := ∃ z u, r = .returned (.tuple #[z, u]) /\ Up w w' /\ Vw w' z (neL N l x) /\ (neC N l x ≠ 0 -> z = .slice none 0 0) /\ ErrsP solveB w' u (neC N l x)
theorem vw_nil (w : World) : Vw w (.slice none 0 0) [] := ⟨_, _, rfl, ⟨Nat.le_refl _, fun _ => rfl⟩, fun _ hi => absurd hi (Nat.not_lt_zero _)⟩
set_option maxHeartbeats 16000000 in
theorem near_sol {v xv : Value} {N : Int} {l x : List Int} {w : World} (hm : Sm w v N l) (hx : Vw w xv x) (hI : In64 x) (hs : x.length <= 1000) :
   Calls Tryz.prog 28 #[v, xv] w (NearPost w N l x) := by
 have HEX := hid (fun w' (hu : Up w w') => exact_any (hm.up hu) (hx.up hu) hI hs)
 have HW21 := hid (fun w => swrong_any 21 (by decide) w)
 obtain ⟨px, cx, rfl, -, -⟩ := hx
 obtain ⟨s, rfl, ⟨p, cap, rfl, -, -⟩, -, -, -⟩ := hm
 obtain ⟨W0, hW0⟩ : ∃ W0, w.alloc (.cells #[.int .i64 N, .slice p l.length cap] 24) = W0 := ⟨_, rfl⟩
 have hB : Blk W0 w.heap.size 24 #[.int .i64 N, .slice p l.length cap] := by rw [<- hW0]; exact Blk.new _ _ rfl
 have hU : Up w W0 := by rw [<- hW0]; exact Up.alloc _ _
 unfold NearPost
 unfold ExactPost at HEX
 obtain ⟨S, hS⟩ : ∃ S, slC N l x = S := ⟨_, rfl⟩
 obtain ⟨C, hC⟩ : ∃ C, neC N l x = C := ⟨_, rfl⟩
 obtain ⟨E, hE⟩ : ∃ E, neL N l x = E := ⟨_, rfl⟩
 obtain ⟨X, hX⟩ : ∃ X, exL N l x = X := ⟨_, rfl⟩
 obtain ⟨D, hD⟩ : ∃ D, slD N.toNat l = D := ⟨_, rfl⟩
 have HS := hid hS
 have HC := hid hC
 have HE := hid hE
 have HX := hid hX
 have HD := hid hD
 rw [hS, hX, hD] at HEX
 rw [hC, hE]
 clear hS hC hE hX hD hI hs
 go_enter Tryz.func28, Tryz.ntmps28
 go_upto_region 2 with (first
  | ((with_reducible apply ldM_P); exact rfl; exact rfl; exact hB; exact rfl)
  | (go_at_call 51; (with_reducible refine (HEX.out _ hU).mono ?_); rintro r w1 ⟨z1, u1, rfl, hu1, hF1, hz1, h1⟩; obtain ⟨pz, cz, rfl⟩ := hF1.slice; have hU1 := hU.trans hu1))
 rcases h1 with ⟨h0, rfl⟩ | ⟨h0, t, y, rfl, hEr⟩
 ·obtain ⟨n, rfl, hDf, hxl⟩ := slC_def (HS.out.trans h0)
  have hXe : X = slL n l x := by rw [<- HX.out]; unfold exL; rw [if_pos (HS.out.trans h0)]; rfl
  have hn8 := hDf.n8
  have hln : X.length = n := by rw [hXe]; exact mk_len _ _
  have HLn := hid hln
  have hDe : D = slD n l := HD.out.symm
  have HAt := hid (fun i (hi : i < n) => show zth X i = slX n l x i from by rw [hXe]; exact mk_at hi)
  have HB5 := hid (fun i => hDf.num_bp i)
  have HDb : Hid (D.natAbs < bp 5 /\ 0 < D) := hid (by rw [hDe]; exact ⟨hDf.den_bp, hDf.den_pos⟩)
  have hNl : (nrL n l x).length = n := mk_len _ _
  have HNl := hid hNl
  have HNt := hid (fun i (hi : i < n) => show (nrL n l x).take (i + 1) = (nrL n l x).take i ++ [nrN D (slX n l x i)] from by rw [hDe]; exact mk_take_succ (fun i => nrN (slD n l) (slX n l x i)) hi)
  have HNa := hid (fun i (hi : i < n) => show zth (nrL n l x) i = nrN D (slX n l x i) from by rw [hDe]; exact mk_at hi)
  have HC2 : Hid (C = if (nrL n l x).all vfit = true then 0 else 21) := hid (by rw [<- HC.out]; unfold neC; rw [if_pos (HS.out.trans h0)]; rfl)
  have HE2 : Hid (E = if C = 0 then nrL n l x else []) := hid (by rw [<- HE.out, <- HC.out]; rfl)
  rw [hln] at hz1 ⊢
  have HF1 := hid hF1
  clear hz1 hXe hln hDe hDf hxl hNl h0 hF1
  obtain ⟨R, hR⟩ : ∃ R, nrL n l x = R := ⟨_, rfl⟩
  rw [hR] at HNl HNt HNa HC2 HE2
  clear hR
  go_wp2_with fail
  clear hW0 hB hU HEX hu1
  go_loopg [8, 24] n (fun g ta ti wr => ∃ i : Nat, i <= n /\ n - i <= g /\ ti = .int .i64 (i : Nat) /\ OwnI wr w1.heap.size ta (R.take i) /\ (∀ j, j < i -> vfit (zth R j) = true) /\ Up w1 wr)
  case atStart => exact ⟨0, Nat.zero_le _, by omega, rfl, by rw [List.take_zero]; exact OwnI.nil _ _, fun j hj => absurd hj (Nat.not_lt_zero _), Up.refl _⟩
  case round =>
   obtain ⟨i, hi, hig, rfl, hO, hz, hu⟩ := hrel
   have HZ := hid hz
   clear hz
   have hszu := hu.size
   by_cases hlt : i < n
   ·obtain ⟨gZ, cZ, CZ, hv, -, hBZ, htZ⟩ := HF1.out.open (by rw [HLn.out]; omega)
    rw [HLn.out] at hv
    injection hv with x1 x2 x3
    subst x1 x3
    have HRng : Hid (∀ w', Blk w' gZ 109 CZ -> w'.rangeAt gZ (i * 32) (fc D (slX n l x i))) := hid (fun w' hB => HAt.out i hlt ▸ fv_range hB htZ (by rw [HLn.out]; exact hlt))
    have hBZr := hBZ.up hu
    have e1 : IntKind.i64.wrap ((i : Int) + 1) = (i : Int) + 1 := IntWalk.i64_in _ (by omega)
    have HT9 := hid (HNt.out i hlt)
    have HA9 := hid (HNa.out i hlt)
    have HTk : Hid ((R.take i).length < 1000000) := hid (by rw [List.length_take]; omega)
    have HN := hid (fun w => nearest_any (HB5.out i) HDb.out.1 HDb.out.2 w)
    clear htZ x2 hBZ
    obtain ⟨z, hz⟩ : ∃ z, slX n l x i = z := ⟨_, rfl⟩
    rw [hz] at HRng HT9 HA9 HN
    clear hz
    obtain ⟨m, hm⟩ : ∃ m, nrN D z = m := ⟨_, rfl⟩
    rw [hm] at HT9 HA9 HN
    clear hm
    by_cases hok : I64 m
    ·rw [i64V_yes hok] at HN
     have HFi := hid (fun w => sfits_any hok w)
     cases hf : vfit m with
     | true =>
       rw [hf] at HFi
       have Hf := hid hf
       clear hf hok
       go_wp2_with (first
        | ((with_reducible apply ldF_P (z := z) (D := D)); exact rfl; exact rfl; (first | exact HRng.out _ hBZr | exact blkF_range hF))
        | ((with_reducible apply stF_P (z := z) (D := D)); exact rfl; exact rfl; exact Blk.new _ _ rfl; exact rfl
           refine wpL_folded (fun wd => Up wr wd /\ Blk wd wr.heap.size 109 (fA z D)) ⟨gUp, Blk.setRow (Blk.new _ _ rfl) _⟩ ?_
           rintro wM ⟨hXM, hF⟩)
        | (go_at_call 52; (with_reducible refine (HN.out _).mono ?_); rintro r w2 ⟨rfl, hu2⟩)
        | (go_at_call 53; (with_reducible refine (HFi.out _).mono ?_); rintro r w3 ⟨rfl, hu3⟩)
        | ((with_reducible apply appV); exact rfl; exact rfl; exact OwnI.up (((hXM.trans hu2).trans hu3).trans (Up.alloc _ _)) hO; exact vw_one _ _; (focus (have := ((hXM.trans hu2).trans hu3).size; simp; omega)); exact HTk.out; (focus (simp; done)); rintro v6 w6 hO6 hb6))
       go_roundg (n - (i + 1))
       case measure => omega
       case rel => exact ⟨i + 1, hlt, Nat.le_refl _, rfl, by rw [HT9.out]; exact hO6, fun j hj => by
        rcases Nat.lt_succ_iff_lt_or_eq.1 hj with h | h
        ·exact HZ.out j h
        ·rw [h, HA9.out]; exact Hf.out, Below.trans (hu.trans (((hXM.trans hu2).trans hu3).trans (Up.alloc _ _))) hb6⟩
     | false =>
       rw [hf] at HFi
       have HC3 : Hid (C = 21) := hid (by
        rw [HC2.out]
        refine if_neg fun h => ?_
        have h1 := List.all_eq_true.1 h (zth R i) (by rw [zth_get (by rw [HNl.out]; exact hlt)]; exact List.getElem_mem _)
        rw [HA9.out, hf] at h1
        cases h1)
       have HE3 : Hid (E = []) := hid (by rw [HE2.out, HC3.out]; rfl)
       clear hf hok
       go_wp2_with (first
        | ((with_reducible apply ldF_P (z := z) (D := D)); exact rfl; exact rfl; (first | exact HRng.out _ hBZr | exact blkF_range hF))
        | ((with_reducible apply stF_P (z := z) (D := D)); exact rfl; exact rfl; exact Blk.new _ _ rfl; exact rfl
           refine wpL_folded (fun wd => Up wr wd /\ Blk wd wr.heap.size 109 (fA z D)) ⟨gUp, Blk.setRow (Blk.new _ _ rfl) _⟩ ?_
           rintro wM ⟨hXM, hF⟩)
        | (go_at_call 52; (with_reducible refine (HN.out _).mono ?_); rintro r w2 ⟨rfl, hu2⟩)
        | (go_at_call 53; (with_reducible refine (HFi.out _).mono ?_); rintro r w3 ⟨rfl, hu3⟩)
        | (go_at_call 54; (with_reducible refine (HW21.out _).mono ?_); rintro r w4 ⟨u4, rfl, hu4, h4⟩))
       go_ret2
       exact ⟨_, _, rfl, (hU1.trans hu).trans (((hXM.trans hu2).trans hu3).trans hu4), by rw [HE3.out]; exact vw_nil _, fun _ => rfl, by rw [HC3.out]; exact h4⟩
    ·have hf : vfit m = false := by unfold vfit; unfold I64 at hok; exact decide_eq_false (by omega)
     rw [i64V_no hok] at HN
     have HC3 : Hid (C = 21) := hid (by
      rw [HC2.out]
      refine if_neg fun h => ?_
      have h1 := List.all_eq_true.1 h (zth R i) (by rw [zth_get (by rw [HNl.out]; exact hlt)]; exact List.getElem_mem _)
      rw [HA9.out, hf] at h1
      cases h1)
     have HE3 : Hid (E = []) := hid (by rw [HE2.out, HC3.out]; rfl)
     clear hf hok
     go_wp2_with (first
      | ((with_reducible apply ldF_P (z := z) (D := D)); exact rfl; exact rfl; (first | exact HRng.out _ hBZr | exact blkF_range hF))
      | ((with_reducible apply stF_P (z := z) (D := D)); exact rfl; exact rfl; exact Blk.new _ _ rfl; exact rfl
         refine wpL_folded (fun wd => Up wr wd /\ Blk wd wr.heap.size 109 (fA z D)) ⟨gUp, Blk.setRow (Blk.new _ _ rfl) _⟩ ?_
         rintro wM ⟨hXM, hF⟩)
      | (go_at_call 52; (with_reducible refine (HN.out _).mono ?_); rintro r w2 ⟨rfl, hu2⟩)
      | (go_at_call 54; (with_reducible refine (HW21.out _).mono ?_); rintro r w4 ⟨u4, rfl, hu4, h4⟩))
     go_ret2
     exact ⟨_, _, rfl, (hU1.trans hu).trans ((hXM.trans hu2).trans hu4), by rw [HE3.out]; exact vw_nil _, fun _ => rfl, by rw [HC3.out]; exact h4⟩
   ·obtain rfl : i = n := by omega
    have hall : R.all vfit = true := List.all_eq_true.2 fun y hy => by
     obtain ⟨j, hj, rfl⟩ := List.mem_iff_getElem.1 hy
     have := HZ.out j (by rw [<- HNl.out]; exact hj)
     rw [zth_get hj] at this
     exact this
    have HC3 : Hid (C = 0) := hid (by rw [HC2.out]; exact if_pos hall)
    have HE3 : Hid (E = R) := hid (by rw [HE2.out, HC3.out]; rfl)
    rw [List.take_of_length_le (by rw [HNl.out]; exact Nat.le_refl _)] at hO
    clear hall
    go_wp2_with fail
    go_ret2
    exact ⟨_, _, rfl, hU1.trans hu, by rw [HE3.out]; exact hO.vw, fun h => absurd HC3.out h, .inl ⟨HC3.out, rfl⟩⟩
 ·have HC2 : Hid (C = S) := hid (by rw [<- HC.out]; unfold neC; rw [HS.out]; exact if_neg h0)
  have HE2 : Hid (E = []) := hid (by rw [<- HE.out]; unfold neL; rw [HC.out, HC2.out]; exact if_neg h0)
  have H0 := hid h0
  have hz := hz1 h0
  injection hz with q1 q2 q3
  clear h0 hz1
  go_wp2_with fail
  go_ret2
  exact ⟨_, _, rfl, hU1, by rw [HE2.out]; exact vw_nil _, fun _ => rfl, by rw [HC2.out]; exact .inr ⟨H0.out, t, y, rfl, hEr⟩⟩
def tmS (n : Nat) (l x : List Int) (i : Nat) : Nat -> Int
 | 0 => 0
 | k + 1 => tmS n l x i k + ent n l i k * zth x k
def tmL (n : Nat) (l x : List Int) : List Int := mk n fun i => tmS n l x i n
def tmC (N : Int) (l x : List Int) : Int := if rt N l && decide ((x.length : Int) = N) then 0 else 23
def tmR (N : Int) (l x : List Int) : List Int := if tmC N l x = 0 then tmL N.toNat l x else []
theorem ent_fit {n : Nat} {l : List Int} (hR : rt n l = true) {i j : Nat} (hi : i < n) (hj : j < n) : (ent n l i j).natAbs <= 1073741824 := by
 obtain ⟨k, _, hk, he⟩ := idx_nat hR (show rng (n : Int) i j = true from decide_eq_true (by omega))
 have := (rt_spec hR).2.2.2 k hk
 rw [he]
 have := of_decide_eq_true this
 omega
theorem tmS_abs {n A B : Nat} {l x : List Int} {i : Nat} (hE : ∀ j : Nat, j < n -> (ent n l i j).natAbs <= A) (hx : ∀ j, j < n -> (zth x j).natAbs <= B) : ∀ k, k <= n -> (tmS n l x i k).natAbs <= k * (A * B) := by
 intro k
 induction k with
 | zero => intro _; exact Nat.zero_le _
 | succ k ih =>
   intro hk
   have h1 := ih (by omega)
   have h5 := Nat.mul_le_mul (hE k (by omega)) (hx k (by omega))
   rw [<- Int.natAbs_mul] at h5
   have h6 := Int.natAbs_add_le (tmS n l x i k) (ent n l i k * zth x k)
   show (tmS n l x i k + ent n l i k * zth x k).natAbs <= _
   rw [Nat.succ_mul]
   exact Nat.le_trans h6 (Nat.add_le_add h1 h5)
theorem i64_abs {z : Int} (h : I64 z) : z.natAbs <= 9223372036854775808 := by unfold I64 at h; omega
theorem tmS_bp {n : Nat} {l x : List Int} (hR : rt n l = true) (hx : In64 x) (hl : x.length = n) {i k : Nat} (hi : i < n) (hk : k <= n) (h8 : n <= 8) : (tmS n l x i k).natAbs < bp 2 := by
 have h1 := tmS_abs (A := 1073741824) (B := 9223372036854775808) (fun j hj => ent_fit hR hi hj) (fun j hj => i64_abs (hx j (by rw [hl]; exact hj))) k hk
 have h2 : bp 2 = 18446744073709551616 * 18446744073709551616 := by rw [bp_succ 1, bp_succ 0, bp_zero, Nat.one_mul]
 rw [h2]
 exact Nat.lt_of_le_of_lt h1 (Nat.lt_of_le_of_lt (Nat.mul_le_mul_right _ (show k <= 8 by omega)) (by decide))
theorem mul_bp1 {a b : Int} (ha : a.natAbs < bp 1) (hb' : b.natAbs < bp 1) : (a * b).natAbs < bp 2 := by
 rw [Int.natAbs_mul, show bp 2 = bp 1 * bp 1 from by rw [<- bp_add]]
 exact Nat.mul_lt_mul_of_lt_of_lt ha hb'
theorem vw_two (w : World) (a b : Int) : Vw (w.alloc (.cells #[.int .i64 a, .int .i64 b] 2)) (.slice (some ⟨w.heap.size, 0, none⟩) 2 2) [a, b] := by
 refine ⟨_, 2, rfl, ⟨Nat.le_refl _, fun e => by cases e⟩, fun i hi => ⟨_, rfl, ?_⟩⟩
 rcases i with _ | _ | i
 ·simp [zth, Addr.add]
 ·simp [zth, Addr.add]
 ·simp at hi; omega
theorem tmL_succ (n : Nat) (l x : List Int) {i : Nat} (hi : i < n) : (tmL n l x).take (i + 1) = (tmL n l x).take i ++ [tmS n l x i n] := by
 have hl : (tmL n l x).length = n := mk_len _ _
 rw [List.take_add_one, List.getElem?_eq_getElem (by omega)]
 have : (tmL n l x)[i]'(by omega) = tmS n l x i n := by
  have := mk_at (f := fun i => tmS n l x i n) hi
  rw [zth_get (by rw [mk_len]; exact hi)] at this
  exact this
 rw [this]
 rfl
def WidesPost (w : World) (l : List Int) (e : Int) (r : Ending) (w' : World) : Prop := ∃ z u, r = .returned (.tuple #[z, u]) /\ Up w w' /\ Wv w' z l /\ Errs w' u e
theorem wv_nil (w : World) : Wv w (.slice none 0 0) [] := .inl ⟨rfl, none, 0, rfl⟩
set_option maxHeartbeats 8000000 in
theorem times_w {v xv : Value} {N : Int} {l x : List Int} {w : World} (hm : Sm w v N l) (hh : Vw w xv x) (hI : In64 x) (hh3 : x.length <= 1000) :
   Calls Tryz.prog 93 #[v, xv] w (WidesPost w (tmR N l x) (tmC N l x)) := by
 have HR := hid (fun w' (hu : Up w w') => sright_any (hm.up hu))
 have HWR := hid wrong_any
 obtain ⟨s, rfl, hV, hN, hl, hlen⟩ := hm
 have HVl := hid hV
 obtain ⟨p, cap, rfl, hcap, hc⟩ := hV
 have HH := hid hh
 obtain ⟨q, cq, rfl, _⟩ := hh
 obtain ⟨W0, hW0⟩ : ∃ W0, w.alloc (.cells #[.int .i64 N, .slice p l.length cap] 24) = W0 := ⟨_, rfl⟩
 have hB : Blk W0 w.heap.size 24 #[.int .i64 N, .slice p l.length cap] := by rw [<- hW0]; exact Blk.new _ _ rfl
 have hU : Up w W0 := by rw [<- hW0]; exact Up.alloc _ _
 cases hR : rt N l with
 | false =>
   have e : tmC N l x = 23 := by unfold tmC; rw [hR]; rfl
   have e2 : tmR N l x = [] := by unfold tmR; rw [e]; rfl
   rw [e, e2]
   rw [hR] at HR
   clear e e2 hR hc hl hN hI
   go_enter Tryz.func93, Tryz.ntmps93
   go_wp2_with (first
    | ((with_reducible apply ldM_P); exact rfl; exact rfl; exact hB; exact rfl)
    | (go_at_call 117; (with_reducible refine (HR.out _ hU).mono ?_); rintro r w1 ⟨rfl, hu1⟩)
    | (go_at_call 118; (with_reducible refine (HWR.out _ _).mono ?_); rintro r w2 ⟨t2, u2, rfl, hu2, h2⟩))
   go_ret2
   exact ⟨_, _, rfl, (hU.trans hu1).trans hu2, wv_nil _, Errs.some_ (by decide) h2⟩
 | true =>
   rw [hR] at HR
   by_cases hn0 : (x.length : Int) = N
   ·obtain ⟨n, rfl⟩ : ∃ n : Nat, N = (n : Int) := ⟨x.length, hn0.symm⟩
    have hxn : x.length = n := by omega
    obtain ⟨_, n8, htri, _⟩ := rt_spec hR
    have e : tmC n l x = 0 := by unfold tmC; rw [hR, decide_eq_true hn0]; rfl
    have e2 : tmR n l x = tmL n l x := by unfold tmR; rw [e, if_pos rfl]; rfl
    rw [e, e2]
    have d3 : ((x.length : Int) != (n : Int)) = false := by rw [hn0]; simp
    have HIX := hid (fun (i j : Nat) (hi : i < n) (hj : j < n) => idx_nat hR (show rng (n : Int) i j = true from decide_eq_true (by omega)))
    have HX := hid (fun (i j : Nat) (hi : i < n) (hj : j < n) w => idx_any (n : Int) (i : Int) (j : Int) n8 (by omega) (by omega) (by omega) (by omega) w)
    have HCell := hid (fun w' (hu : Up w w') (k : Nat) (hk : k < l.length) => show ∃ a, p = some a /\ w'.cell? (a.add k) = some (.int .i64 (zth l k)) from by obtain ⟨a, h1, h2⟩ := hc k hk; exact ⟨a, h1, hu.cellEq h2⟩)
    have HS := hid (fun i k (hi : i < n) (hk : k <= n) => tmS_bp hR hI hxn hi hk (by omega))
    have HI64 := hid hI
    have Hl64 := hid hl
    have HTL := hid (fun i (hi : i < n) => tmL_succ n l x hi)
    have hTl : (tmL n l x).length = n := mk_len _ _
    have HTl := hid hTl
    have hn8 : n <= 8 := by omega
    have hxl9 := hxn
    clear e e2 hR hc hl hN hI hn0 htri hTl n8
    obtain ⟨T, hT⟩ : ∃ T, tmL n l x = T := ⟨_, rfl⟩
    rw [hT] at HTL HTl ⊢
    clear hT
    go_enter Tryz.func93, Tryz.ntmps93
    go_wp2_with (first
     | ((with_reducible apply ldM_P); exact rfl; exact rfl; exact hB; exact rfl)
     | (go_at_call 117; (with_reducible refine (HR.out _ hU).mono ?_); rintro r w1 ⟨rfl, hu1⟩; replace hB := hB.up hu1; replace hU := hU.trans hu1; have hc0 := hB.cell 0 rfl))
    obtain ⟨wS, rfl⟩ : ∃ y, y = w1 := ⟨_, rfl⟩
    clear hc0 hu1 hW0
    go_loopg [6, 23] n (fun g ta ti wr => ∃ i : Nat, i <= n /\ n - i <= g /\ ti = .int .i64 (i : Nat) /\ OwnW wr wS.heap.size ta (T.take i) /\ Up wS wr)
    case atStart => exact ⟨0, Nat.zero_le _, by omega, rfl, by rw [List.take_zero]; exact OwnW.nil _ _, Up.refl _⟩
    case round =>
     obtain ⟨i, hi, hig, rfl, hO, hu⟩ := hrel
     by_cases hlt : i < n
     ·have e1 : IntKind.i64.wrap ((i : Int) + 1) = (i : Int) + 1 := IntWalk.i64_in _ (by omega)
      obtain ⟨wI, hwI⟩ : ∃ y, wr.alloc (.cells (cells 16 (fun _ => 0)) 107) = y := ⟨_, rfl⟩
      have hRow0 : Row wI wr.heap.size 107 16 (limb (enc (tmS n l x i 0))) := by
       rw [<- hwI]; show Blk _ _ _ (cells 16 (limb (enc 0))); rw [<- zero_limb]; exact Blk.new _ _ rfl
      have hUI : Up wr wI := by rw [<- hwI]; exact Up.alloc _ _
      rw [<- zeros16] at hwI
      have hc0 := (hB.up (hu.trans hUI)).cell 0 rfl
      go_wp2_with fail
      obtain ⟨bS, hbS⟩ : ∃ y, wr.heap.size = y := ⟨_, rfl⟩
      rw [hbS] at hRow0 ⊢
      clear hwI hc0
      obtain ⟨wO, hwO⟩ : ∃ y, wr = y := ⟨_, rfl⟩
      rw [hwO] at hO hu hUI hbS
      clear hwO
      go_loopg [28] n (fun g tj wr => ∃ j : Nat, j <= n /\ n - j <= g /\ tj = .int .i64 (j : Nat) /\ Row wr bS 107 16 (limb (enc (tmS n l x i j))) /\ Up wO wr)
      case atStart => exact ⟨0, Nat.zero_le _, by omega, rfl, hRow0, hUI⟩
      case round =>
       clear hRow0 hUI
       obtain ⟨j, hj, hjg, rfl, hRow, huj⟩ := hrel
       have hBj := hB.up (hu.trans huj)
       have hc0 := hBj.cell 0 rfl
       by_cases hjlt : j < n
       ·have e2 : IntKind.i64.wrap ((j : Int) + 1) = (j : Int) + 1 := IntWalk.i64_in _ (by omega)
        obtain ⟨k, hk, hkl, hke⟩ := HIX.out i j hlt hjlt
        have HXk := hid (fun w => hk ▸ HX.out i j hlt hjlt w)
        obtain ⟨ad, rfl, -⟩ := HCell.out _ (Up.refl w) k hkl
        have hjx : j < x.length := by omega
        obtain ⟨q', cq', xq, _, hcq⟩ := HH.out
        injection xq with y1 y2 y3
        subst y1 y3
        obtain ⟨adx, rfl, -⟩ := hcq j hjx
        have HAd := hid (fun w' (hu : Up w w') => (show w'.cell? (adx.add j) = some (.int .i64 (zth x j)) from by obtain ⟨a2, z1, z2⟩ := hcq j hjx; injection z1 with z1; subst z1; exact hu.cellEq z2))
        have HAl := hid (fun w' (hu : Up w w') => (show w'.cell? (ad.add k) = some (.int .i64 (zth l k)) from by obtain ⟨a2, z1, z2⟩ := HCell.out w' hu k hkl; injection z1 with z1; subst z1; exact z2))
        have hak := Hl64.out k hkl
        have hxj := HI64.out j hjx
        have h64 : In64 [zth l k, zth x j] := by
         intro q hq
         rcases q with _ | _ | q
         ·exact hak
         ·exact hxj
         ·simp at hq; omega
        have epr : prodL [zth l k, zth x j] = zth l k * zth x j := by simp [prodL]
        have HPr := hid (fun v w (hv : Vw w v [zth l k, zth x j]) => epr ▸ product_any hv h64 (show 2 <= 10 by decide))
        have eS : tmS n l x i (j + 1) = tmS n l x i j + zth l k * zth x j := by rw [<- hke]; rfl
        have hS1 := HS.out i j hlt hj
        have hS2 := HS.out i (j + 1) hlt hjlt
        have hprb : (zth l k * zth x j).natAbs < bp 2 := mul_bp1 (i64_bp hak) (i64_bp hxj)
        have HPl := hid (fun w => plus_sum (w := w) (inR_bp (k := 2) (by omega) hS1) (inR_bp (k := 2) (by omega) hprb) (by rw [<- eS]; exact inR_bp (k := 2) (by omega) hS2))
        rw [<- eS] at HPl
        clear hcq hk hke hak hxj h64 epr eS hS1 hS2 hprb y2
        unfold wideV at *
        obtain ⟨S2, hS29⟩ : ∃ y, tmS n l x i (j + 1) = y := ⟨_, rfl⟩
        have HS2 := hid hS29
        rw [hS29] at HPl
        clear hS29
        generalize tmS n l x i j = S1 at *
        obtain ⟨pr, hpr⟩ : ∃ z, zth l k * zth x j = z := ⟨_, rfl⟩
        rw [hpr] at HPr HPl
        clear hpr
        generalize zth l k = ak at *
        generalize zth x j = xj at *
        go_wp2_with fail
        refine wp_region_sp (n := 55) 17 [31, 32, 33, 34, 35, 36, 37, 38, 39, 40, 41, 42, 43, 44, 45, 46, 47] [SP.is (.agg (cells 16 (limb (enc S1)))), SP.is (.pointer (some ⟨w.heap.size, 1, none⟩)), SP.is (.slice (some ad) l.length cap), SP.is (.pointer (some ⟨w.heap.size, 0, none⟩)), SP.is (.int .i64 (n : Nat)), SP.is (.int .i64 (i : Nat)), SP.is (.int .i64 (j : Nat)), SP.is (.int .i64 (k : Nat)), SP.is (.pointer (some (ad.add k))), SP.is (.int .i64 ak), SP.is (.slice (some adx) x.length cq), SP.is (.int .i64 (j : Nat)), SP.is (.pointer (some (adx.add j))), SP.is (.int .i64 xj), SP.of (fun v w1 => Vw w1 v [ak, xj]) (fun _ _ _ h hu => Vw.up hu h), SP.is (.agg (cells 16 (limb (enc pr)))), SP.is (.agg (cells 16 (limb (enc S2)))), SP.any] (fun wq => Up wr wq /\ Row wq bS 107 16 (limb (enc S1)) /\ Below w.heap.size w wq) (by kernel_rfl) (by rfl) (by kernel_rfl) (by kernel_rfl) (fun _ _ h hu => ⟨(h.1).trans hu, (h.2.1).up hu, below_up (h.2.2) hu⟩) ⟨(by first | exact Up.refl _ | assumption), (by assumption), gUp⟩ (fun ev w9 hS9 i o hne hi hev => ?_) (fun gR wE hq hSE huE => ?_)
        ·have ⟨hS1, hS2, hSB⟩ := hS9
         have hcC := hev.const
         have hcF := hev.func
         have hcG := hev.global
         rcases i with _ | _ | _ | _ | _ | _ | _ | _ | _ | _ | _ | _ | _ | _ | _ | _ | _ | _ | i
         ·obtain rfl := oI hi
          have e8 := hev.other 8 (by kernel_rfl)
          simp [Act.eval] at e8
          exact leavesR_value (run_ldE undW infoW rfl e8 hS2) rfl
         ·obtain rfl := oI hi
          have e2 := hev.other 2 (by kernel_rfl)
          simp [Act.eval] at e2
          exact lV (.pointer (some ⟨w.heap.size, 1, none⟩))
         ·obtain rfl := oI hi
          have e32 : ev (.tmp 32) = (.pointer (some ⟨w.heap.size, 1, none⟩)) := hev.dep 1 32 (by kernel_rfl)
          have hcx := (hBj.up hS1).cell 1 rfl; exact leavesR_value (u := .slice (some ad) l.length cap) (by go_simp) rfl
         ·obtain rfl := oI hi
          have e2 := hev.other 2 (by kernel_rfl)
          simp [Act.eval] at e2
          exact lV (.pointer (some ⟨w.heap.size, 0, none⟩))
         ·obtain rfl := oI hi
          have e34 : ev (.tmp 34) = (.pointer (some ⟨w.heap.size, 0, none⟩)) := hev.dep 3 34 (by kernel_rfl)
          have hcx := (hBj.up hS1).cell 0 rfl; exact leavesR_value (u := .int .i64 (n : Nat)) (by go_simp) rfl
         ·obtain rfl := oI hi
          have e7 := hev.other 7 (by kernel_rfl)
          simp [Act.eval] at e7
          exact lV (.int .i64 (i : Nat))
         ·obtain rfl := oI hi
          have e9 := hev.other 9 (by kernel_rfl)
          simp [Act.eval] at e9
          exact lV (.int .i64 (j : Nat))
         ·obtain rfl := oI hi
          have e35 : ev (.tmp 35) = (.int .i64 (n : Nat)) := hev.dep 4 35 (by kernel_rfl)
          have e36 : ev (.tmp 36) = (.int .i64 (i : Nat)) := hev.dep 5 36 (by kernel_rfl)
          have e37 : ev (.tmp 37) = (.int .i64 (j : Nat)) := hev.dep 6 37 (by kernel_rfl)
          refine leavesR_call ?_ ((HXk.out _).mono fun _ _ h => ⟨by rw [h.2]; exact Up.refl _, _, h.1, rfl⟩)
          go_simp
         ·obtain rfl := oI hi
          have e33 : ev (.tmp 33) = (.slice (some ad) l.length cap) := hev.dep 2 33 (by kernel_rfl)
          have e38 : ev (.tmp 38) = (.int .i64 (k : Nat)) := hev.dep 7 38 (by kernel_rfl)
          exact lV (.pointer (some (ad.add k)))
         ·obtain rfl := oI hi
          have e39 : ev (.tmp 39) = (.pointer (some (ad.add k))) := hev.dep 8 39 (by kernel_rfl)
          have hcx := HAl.out w9 (hU.trans (hu.trans (huj.trans hS1))); exact leavesR_value (u := .int .i64 ak) (by go_simp) rfl
         ·obtain rfl := oI hi
          have e1 := hev.other 1 (by kernel_rfl)
          simp [Act.eval] at e1
          exact lV (.slice (some adx) x.length cq)
         ·obtain rfl := oI hi
          have e9 := hev.other 9 (by kernel_rfl)
          simp [Act.eval] at e9
          exact lV (.int .i64 (j : Nat))
         ·obtain rfl := oI hi
          have e41 : ev (.tmp 41) = (.slice (some adx) x.length cq) := hev.dep 10 41 (by kernel_rfl)
          have e42 : ev (.tmp 42) = (.int .i64 (j : Nat)) := hev.dep 11 42 (by kernel_rfl)
          exact lV (.pointer (some (adx.add j)))
         ·obtain rfl := oI hi
          have e43 : ev (.tmp 43) = (.pointer (some (adx.add j))) := hev.dep 12 43 (by kernel_rfl)
          have hcx := HAd.out w9 (hU.trans (hu.trans (huj.trans hS1))); exact leavesR_value (u := .int .i64 xj) (by go_simp) rfl
         ·obtain rfl := oI hi
          have e40 : ev (.tmp 40) = (.int .i64 ak) := hev.dep 9 40 (by kernel_rfl)
          have e44 : ev (.tmp 44) = (.int .i64 xj) := hev.dep 13 44 (by kernel_rfl)
          exact leavesR_up (u := .slice (some ⟨w9.heap.size, 0, none⟩) 2 2) (w' := w9.alloc (.cells #[.int .i64 ak, .int .i64 xj] 2)) (by go_simp) (Up.alloc _ _) (vw_two w9 ak xj)
         ·obtain rfl := oI hi
          have e45 : (fun v w1 => Vw w1 v [ak, xj]) (ev (.tmp 45)) w9 := hev.dep 14 45 (by kernel_rfl)
          dsimp only at e45
          obtain ⟨v45, hv45⟩ : ∃ v, ev (.tmp 45) = v := ⟨_, rfl⟩
          rw [hv45] at e45
          refine leavesR_call ?_ ((HPr.out _ _ e45).mono fun _ _ h => ⟨h.2, _, h.1, rfl⟩)
          go_simp
         ·obtain rfl := oI hi
          have e31 : ev (.tmp 31) = (.agg (cells 16 (limb (enc S1)))) := hev.dep 0 31 (by kernel_rfl)
          have e46 : ev (.tmp 46) = (.agg (cells 16 (limb (enc pr)))) := hev.dep 15 46 (by kernel_rfl)
          refine leavesR_call ?_ ((HPl.out _).mono fun _ _ h => ⟨h.2, _, h.1, rfl⟩)
          go_simp
         ·exact absurd rfl hne
         ·exact absurd (show i + 18 < 18 from (Array.getElem?_eq_some_iff.1 hi).1) (by omega)
        have ⟨hS1, hS2, hSB⟩ := hSE
        have q0 : gR 31 = (.agg (cells 16 (limb (enc S1)))) := hq 0 31 (by decide) (by kernel_rfl)
        have q1 : gR 32 = (.pointer (some ⟨w.heap.size, 1, none⟩)) := hq 1 32 (by decide) (by kernel_rfl)
        have q2 : gR 33 = (.slice (some ad) l.length cap) := hq 2 33 (by decide) (by kernel_rfl)
        have q3 : gR 34 = (.pointer (some ⟨w.heap.size, 0, none⟩)) := hq 3 34 (by decide) (by kernel_rfl)
        have q4 : gR 35 = (.int .i64 (n : Nat)) := hq 4 35 (by decide) (by kernel_rfl)
        have q5 : gR 36 = (.int .i64 (i : Nat)) := hq 5 36 (by decide) (by kernel_rfl)
        have q6 : gR 37 = (.int .i64 (j : Nat)) := hq 6 37 (by decide) (by kernel_rfl)
        have q7 : gR 38 = (.int .i64 (k : Nat)) := hq 7 38 (by decide) (by kernel_rfl)
        have q8 : gR 39 = (.pointer (some (ad.add k))) := hq 8 39 (by decide) (by kernel_rfl)
        have q9 : gR 40 = (.int .i64 ak) := hq 9 40 (by decide) (by kernel_rfl)
        have q10 : gR 41 = (.slice (some adx) x.length cq) := hq 10 41 (by decide) (by kernel_rfl)
        have q11 : gR 42 = (.int .i64 (j : Nat)) := hq 11 42 (by decide) (by kernel_rfl)
        have q12 : gR 43 = (.pointer (some (adx.add j))) := hq 12 43 (by decide) (by kernel_rfl)
        have q13 : gR 44 = (.int .i64 xj) := hq 13 44 (by decide) (by kernel_rfl)
        have q14 : (fun v w1 => Vw w1 v [ak, xj]) (gR 45) wE := hq 14 45 (by decide) (by kernel_rfl)
        dsimp only at q14
        obtain ⟨v45, hv45⟩ : ∃ v, gR 45 = v := ⟨_, rfl⟩
        rw [hv45] at q14
        have q15 : gR 46 = (.agg (cells 16 (limb (enc pr)))) := hq 15 46 (by decide) (by kernel_rfl)
        have q16 : gR 47 = (.agg (cells 16 (limb (enc S2)))) := hq 16 47 (by decide) (by kernel_rfl)
        refine ⟨fun h => absurd h (by decide), fun o ho => ?_⟩
        obtain rfl := oI ho
        simp only [putL, List.map_cons, List.map_nil, q0, q1, q2, q3, q4, q5, q6, q7, q8, q9, q10, q11, q12, q13, hv45, q15, q16, Act.put, pu1, pu2, pu3]
        clear hq hSE q0 q1 q2 q3 q4 q5 q6 q7 q8 q9 q10 q11 q12 q13 q15 q16
        refine wp_st_rowN infoW rfl _ _ rfl _ rfl rfl hS2 ?_
        have hR9 := hS2.setRow (limb (enc S2))
        have hu9 := (huj.trans hS1)
        have hU9 := below_setRow hu9 (show wO.heap.size <= bS by omega) (cells 16 (limb (enc S2)))
        obtain ⟨wK, hwK⟩ : ∃ y, wE.setRow bS (cells 16 (limb (enc S2))) = y := ⟨_, rfl⟩
        rw [hwK] at hR9 hU9 ⊢
        clear hwK hS1 hS2 hSB huE hu9 q14
        go_wp2_with fail
        go_roundg (n - (j + 1))
        case measure => omega
        case rel => exact ⟨j + 1, hjlt, Nat.le_refl _, rfl, by rw [HS2.out]; exact hR9, hU9⟩
       ·obtain rfl : j = n := by omega
        have hTs := HTL.out i hlt
        have HT9 := hid hTs
        have hszj := huj.size
        have hszu := hu.size
        have HTk : Hid ((T.take i).length < 1000000) := hid (by rw [List.length_take, HTl.out]; omega)
        clear hTs
        generalize tmS j l x i j = S at *
        go_wp2_with (first
         | ((with_reducible apply ld_rowP undW infoW); exact rfl; exact rfl; exact gRow)
         | ((with_reducible apply bsW_P); exact rfl)
         | ((with_reducible apply appW (l := T.take i) (m := [S])); exact rfl; exact rfl; exact OwnW.up (huj.trans (Up.alloc _ _)) hO; exact one_range rfl; (focus (simp; omega)); exact HTk.out; (focus (simp; done)); rintro v6 w6 hO6 - hb6))
        go_roundg (j - (i + 1))
        case measure => omega
        case rel => exact ⟨i + 1, hlt, Nat.le_refl _, rfl, by rw [HT9.out]; exact hO6, Below.trans ((hu.trans huj).trans (Up.alloc _ _)) hb6⟩
     ·obtain rfl : i = n := by omega
      rw [<- HTl.out, List.take_length] at hO
      go_wp2_with fail
      go_ret2
      exact ⟨_, _, rfl, hU.trans hu, hO.wv, Errs.none_ _⟩
   ·have e : tmC N l x = 23 := by unfold tmC; rw [hR, decide_eq_false hn0]; rfl
    have e2 : tmR N l x = [] := by unfold tmR; rw [e]; rfl
    rw [e, e2]
    have d3 : ((x.length : Int) != N) = true := by simpa using hn0
    clear e e2 hR hc hl hN hI hn0
    go_enter Tryz.func93, Tryz.ntmps93
    go_wp2_with (first
     | ((with_reducible apply ldM_P); exact rfl; exact rfl; exact hB; exact rfl)
     | (go_at_call 117; (with_reducible refine (HR.out _ hU).mono ?_); rintro r w1 ⟨rfl, hu1⟩; replace hB := hB.up hu1; have hc0 := hB.cell 0 rfl)
     | (go_at_call 118; (with_reducible refine (HWR.out _ _).mono ?_); rintro r w2 ⟨t2, u2, rfl, hu2, h2⟩))
    go_ret2
    exact ⟨_, _, rfl, (hU.trans hu1).trans hu2, wv_nil _, Errs.some_ (by decide) h2⟩
def rsM (n : Nat) (l x v : List Int) : Nat -> Int
 | 0 => 0
 | i + 1 => if rsM n l x v i < ((tmS n l x i n - zth v i).natAbs : Nat) then ((tmS n l x i n - zth v i).natAbs : Nat) else rsM n l x v i
theorem rsM_bp {n : Nat} {l x v : List Int} (h1 : ∀ i, i < n -> (tmS n l x i n).natAbs < bp 2) (h2 : ∀ i, i < n -> I64 (zth v i)) : ∀ i, i <= n -> 0 <= rsM n l x v i /\ (rsM n l x v i).natAbs < bp 3 := by
 have e3 : bp 3 = bp 2 * 18446744073709551616 := bp_succ 2
 have e2 : bp 2 = bp 1 * 18446744073709551616 := bp_succ 1
 have e1 : bp 1 = bp 0 * 18446744073709551616 := bp_succ 0
 rw [bp_zero] at e1
 intro i
 induction i with
 | zero => intro _; exact ⟨Int.le_refl _, by show 0 < _; omega⟩
 | succ i ih =>
   intro hi
   have h3 := ih (by omega)
   have h4 := h1 i (by omega)
   have h5 := h2 i (by omega)
   unfold I64 at h5
   unfold rsM
   split <;> omega
def rsC (N : Int) (l x v : List Int) : Int := if ftC N l [x, v] = 0 then (if rsM N.toNat l x v N.toNat < 9223372036854775808 then 0 else 21) else ftC N l [x, v]
def rsV (N : Int) (l x v : List Int) : Int := if rsC N l x v = 0 then rsM N.toNat l x v N.toNat else 0
def ResPost (w : World) (N : Int) (l x v : List Int) (r : Ending) (w' : World) : Prop := ∃ u, r = .returned (.tuple #[.int .i64 (rsV N l x v), u]) /\ Up w w' /\ ErrsP solveB w' u (rsC N l x v)
theorem lv_two {w : World} {v1 v2 : Value} {l1 l2 : List Int} (h1 : Vw w v1 l1) (h2 : Vw w v2 l2) : Lv (w.alloc (.cells #[v1, v2] 22)) (.slice (some ⟨w.heap.size, 0, none⟩) 2 2) [l1, l2] :=
 ⟨_, _, rfl, fun i hi => by
  rcases i with _ | _ | i
  ·exact ⟨_, v1, rfl, (Blk.new _ _ rfl).cell 0 rfl, h1.up (Up.alloc _ _)⟩
  ·exact ⟨_, v2, rfl, (Blk.new _ _ rfl).cell 1 rfl, h2.up (Up.alloc _ _)⟩
  ·simp at hi; omega⟩
theorem ftC_two {N : Int} {l x v : List Int} (h : ftC N l [x, v] = 0) : ∃ n : Nat, N = (n : Int) /\ rt n l = true /\ x.length = n /\ v.length = n := by
 unfold ftC at h
 by_cases h2 : rt N l = true /\ ∀ i, i < [x, v].length -> (([x, v].getD i []).length : Int) = N
 ·obtain ⟨n0, n8, _, _⟩ := rt_spec h2.1
  obtain ⟨n, rfl⟩ : ∃ n : Nat, N = (n : Int) := ⟨N.toNat, by omega⟩
  have a1 := h2.2 0 (by simp)
  have a2 := h2.2 1 (by simp)
  simp at a1 a2
  exact ⟨n, rfl, h2.1, by omega, by omega⟩
 ·rw [if_neg h2] at h; omega
set_option maxHeartbeats 16000000 in
theorem residual_any {mv xv vv : Value} {N : Int} {l x v : List Int} {w : World} (hm : Sm w mv N l) (hx : Vw w xv x) (hv : Vw w vv v) (hIx : In64 x) (hIv : In64 v) (hsx : x.length <= 1000) (hsv : v.length <= 1000) :
   Calls Tryz.prog 64 #[mv, xv, vv] w (ResPost w N l x v) := by
 have HF := hid (fun w' (hu : Up w w') => fitting_any (hm.up (hu.trans (Up.alloc w' (.cells #[xv, vv] 22)))) (lv_two (hx.up hu) (hv.up hu)) (fun i => by rcases i with _ | _ | i; exact hIx; exact hIv; exact fun j hj => absurd hj (Nat.not_lt_zero _)) (fun i => by rcases i with _ | _ | i; exact hsx; exact hsv; exact Nat.zero_le _) (by simp))
 have HT := hid (fun w' (hu : Up w w') => times_w (hm.up hu) (hx.up hu) hIx hsx)
 have HW21 := hid (fun w => swrong_any 21 (by decide) w)
 have HV := hid hv
 have HIX := hid hIx
 have HIV := hid hIv
 obtain ⟨px, cx, rfl, -, -⟩ := hx
 obtain ⟨pv, cv, rfl, -, -⟩ := hv
 obtain ⟨s, rfl, ⟨p, cap, rfl, -, -⟩, -, -, -⟩ := hm
 obtain ⟨W0, hW0⟩ : ∃ W0, w.alloc (.cells #[.int .i64 N, .slice p l.length cap] 24) = W0 := ⟨_, rfl⟩
 have hB : Blk W0 w.heap.size 24 #[.int .i64 N, .slice p l.length cap] := by rw [<- hW0]; exact Blk.new _ _ rfl
 have hU : Up w W0 := by rw [<- hW0]; exact Up.alloc _ _
 have HFW := hid (HF.out W0 hU)
 have hBa := hB.up (Up.alloc W0 (.cells #[.slice px x.length cx, .slice pv v.length cv] 22))
 have hUa := hU.trans (Up.alloc W0 (.cells #[.slice px x.length cx, .slice pv v.length cv] 22))
 unfold ResPost
 unfold WidesPost at HT
 obtain ⟨F, hF⟩ : ∃ F, ftC N l [x, v] = F := ⟨_, rfl⟩
 obtain ⟨C, hC⟩ : ∃ C, rsC N l x v = C := ⟨_, rfl⟩
 obtain ⟨V, hVv⟩ : ∃ V, rsV N l x v = V := ⟨_, rfl⟩
 have HFF := hid hF
 have HC := hid hC
 have HVv := hid hVv
 rw [hF] at HFW
 rw [hC, hVv]
 clear hF hC hVv HF hIx hIv hsx hsv
 go_enter Tryz.func64, Tryz.ntmps64
 go_upto_region 2 with (first
  | ((with_reducible apply ldM_P); exact rfl; exact rfl; exact hB; exact rfl)
  | (go_at_call 92; (with_reducible refine HFW.out.mono ?_); rintro r w1 ⟨u1, rfl, hu1, h1⟩; have hB1 := hBa.up hu1; have hU1 := hUa.trans hu1))
 rcases h1 with ⟨h0, rfl⟩ | ⟨h0, t, y, rfl, hE⟩
 ·obtain ⟨n, rfl, hR, hxl, hvl⟩ := ftC_two (HFF.out.trans h0)
  have hn8 : n <= 8 := by have := (rt_spec hR).2.1; omega
  have etc : tmC (n : Int) l x = 0 := by unfold tmC; rw [hR, decide_eq_true (by omega)]; rfl
  have etr : tmR (n : Int) l x = tmL n l x := by unfold tmR; rw [if_pos etc]; rfl
  rw [etc, etr] at HT
  have hTl : (tmL n l x).length = n := mk_len _ _
  have HTl := hid hTl
  have HTa := hid (fun i (hi : i < n) => show zth (tmL n l x) i = tmS n l x i n from mk_at hi)
  have HTb := hid (fun i (hi : i < n) => tmS_bp hR HIX.out hxl hi (Nat.le_refl n) hn8)
  have HVi := hid (fun i (hi : i < n) => HIV.out i (by omega))
  have HRb := hid (rsM_bp HTb.out HVi.out)
  have HC2 : Hid (C = if rsM n l x v n < 9223372036854775808 then 0 else 21) := hid (by rw [<- HC.out]; unfold rsC; rw [if_pos (HFF.out.trans h0)]; rfl)
  have HV2 : Hid (V = if C = 0 then rsM n l x v n else 0) := hid (by rw [<- HVv.out, <- HC.out]; rfl)
  have HOV := hid (fun i (hi : i < n) w => of_any (zth v i) (HVi.out i hi).1 (HVi.out i hi).2 w)
  have HVL := hid hvl
  rw [hxl] at HT
  rw [hxl, hvl]
  rw [hvl] at HV
  clear etc etr hTl hR hxl hvl h0 hW0 hB hBa hUa hu1 hU HFW
  unfold wideV at *
  go_wp2_with (first
   | ((with_reducible apply ldM_P); exact rfl; exact rfl; exact hB1; exact rfl)
   | (go_at_call 93; (with_reducible refine (HT.out _ hU1).mono ?_); rintro r w2 ⟨z2, u2, rfl, hu2, hW2, he2⟩; obtain rfl := he2.elim (fun h => h.2) (fun h => absurd rfl h.1); obtain ⟨pz, cz, rfl⟩ := hW2.slice; have hU2 := hU1.trans hu2
      rw [HTl.out]
      obtain ⟨wI, hwI⟩ : ∃ y, w2.alloc (.cells (cells 16 (fun _ => 0)) 107) = y := ⟨_, rfl⟩
      have hG0 : Row wI w2.heap.size 107 16 (limb (enc 0)) := by rw [<- hwI]; show Blk _ _ _ (cells 16 (limb (enc 0))); rw [<- zero_limb]; exact Blk.new _ _ rfl
      have hUI : Up w2 wI := by rw [<- hwI]; exact Up.alloc _ _
      rw [<- zeros16] at hwI))
  obtain ⟨bG, hbG⟩ : ∃ y, w2.heap.size = y := ⟨_, rfl⟩
  rw [hbG] at hG0 ⊢
  rw [HTl.out] at hW2
  have HW2 := hid hW2
  clear hW2 hwI hu2 he2 hB1
  go_loopg [37] n (fun g ti wr => ∃ i : Nat, i <= n /\ n - i <= g /\ ti = .int .i64 (i : Nat) /\ Row wr bG 107 16 (limb (enc (rsM n l x v i))) /\ Up w2 wr)
  case atStart => exact ⟨0, Nat.zero_le _, by omega, rfl, hG0, hUI⟩
  case round =>
   clear hG0 hUI
   obtain ⟨i, hi, hig, rfl, hG, hu⟩ := hrel
   have hGI : InR (rsM n l x v i) := inR_bp (k := 3) (by omega) (HRb.out i hi).2
   by_cases hlt : i < n
   ·obtain ⟨gZ, cZ, CZ, hv, -, hBZ, htZ⟩ := (show Wv w2 (.slice pz (tmL n l x).length cz) (tmL n l x) from by rw [HTl.out]; exact HW2.out).open (by rw [HTl.out]; omega)
    rw [HTl.out] at hv
    injection hv with x1 x2 x3
    subst x1 x3
    have HRng : Hid (∀ w', Blk w' gZ 107 CZ -> w'.rangeAt gZ (i * 16) (wc (tmS n l x i n))) := hid (fun w' hB => HTa.out i hlt ▸ wv_range hB htZ (by rw [HTl.out]; exact hlt))
    have hBZr := hBZ.up hu
    have hVr := Vw.up (hU2.trans hu) HV.out
    obtain ⟨q', cq', xq, _, hcq⟩ := hVr
    injection xq with y1 y2 y3
    subst y1
    obtain ⟨ad, rfl, hck⟩ := hcq i (by rw [HVL.out]; exact hlt)
    have hp2 := HTb.out i hlt
    have hv64 := HVi.out i hlt
    have HOf := hid (HOV.out i hlt)
    have hRs : rsM n l x v (i + 1) = if rsM n l x v i < (((tmS n l x i n - zth v i).natAbs : Nat) : Int) then (((tmS n l x i n - zth v i).natAbs : Nat) : Int) else rsM n l x v i := rfl
    have e3 : bp 3 = bp 2 * 18446744073709551616 := bp_succ 2
    have e2' : bp 2 = bp 1 * 18446744073709551616 := bp_succ 1
    have e1' : bp 1 = bp 0 * 18446744073709551616 := bp_succ 0
    rw [bp_zero] at e1'
    have hd3 : (tmS n l x i n - zth v i).natAbs < bp 3 := by unfold I64 at hv64; omega
    have HLs := hid (fun w => sless_any (w := w) (inR_bp (k := 2) (by omega) hp2) (inR_bp (k := 2) (by omega) (show (zth v i).natAbs < bp 2 by unfold I64 at hv64; omega)) (inR_bp (k := 3) (by omega) hd3))
    have HAm := hid (fun w => samount_any (w := w) (Nat.lt_of_lt_of_le hd3 (bp_mono (show 3 <= 14 by omega))))
    have hAI : InR (((tmS n l x i n - zth v i).natAbs : Nat) : Int) := inR_bp (k := 3) (by omega) (by omega)
    have HCm := hid (fun w => cmp_z hAI hGI w)
    have HRs := hid hRs
    have e1 : IntKind.i64.wrap ((i : Int) + 1) = (i : Int) + 1 := IntWalk.i64_in _ (by omega)
    clear htZ x2 hBZ hcq y2 y3 hRs e3 e2' e1' hd3 hp2 hv64 hAI hGI
    obtain ⟨vi, hvi⟩ : ∃ y, zth v i = y := ⟨_, rfl⟩
    rw [hvi] at hck HOf HLs HAm HCm HRs
    clear hvi
    generalize tmS n l x i n = S at *
    generalize S - vi = dd at *
    obtain ⟨A, hA⟩ : ∃ A, ((dd.natAbs : Nat) : Int) = A := ⟨_, rfl⟩
    rw [hA] at HAm HCm HRs
    clear hA
    (try unfold wideV at HOf); (try unfold wideV at HLs); (try unfold wideV at HAm); (try unfold wideV at HCm)
    go_wp2_with (first
     | ((with_reducible apply ldW_P); exact rfl; exact rfl; exact HRng.out _ hBZr)
     | ((with_reducible apply st_rowP infoW); exact rfl; exact rfl; exact row_newz _ rfl
        refine wpL_folded (fun wd => Up wr wd /\ Row wd wr.heap.size 107 16 (limb (enc S))) ⟨gUp, gRow⟩ ?_
        rintro wM ⟨hXM, hP⟩
        have hckM := hXM.cellEq hck))
    refine opU (S := (fun wq => Row wq wr.heap.size 107 16 (limb (enc S)) /\ wq.cell? (ad.add i) = some (.int .i64 vi) /\ Up wM wq /\ Below w.heap.size w wq)) (req := (fun j => j != 9)) (fun _ _ h hu => ⟨(h.1).up hu, hu.cell (h.2.1), (h.2.2.1).trans hu, below_up (h.2.2.2) hu⟩) ⟨gRow, (by first | assumption | (apply Blk.cell; exact gBlk; exact rfl)), (by first | exact Up.refl _ | assumption), gUp⟩ (fun wS hSS hSu => ?_)
    have ⟨hS1, hS2, hS3, hSB⟩ := hSS
    refine tkT 0 (some 42) rfl hSu hSS ?_ (hy := fun w' hSw => run_ld undW infoW _ rfl _ rfl hSw.1)
    refine tkP 1 (some 43) hSu ?_
    refine tkP 2 (some 44) hSu ?_
    refine tkP 3 (some 45) hSu ?_
    refine tkT 4 (some 46) rfl hSu hSS ?_ (hy := fun w' hSw => by ((try dsimp only at hSw); (try obtain ⟨_, _, _, _⟩ := hSw); go_simp; (try exact rfl)))
    refine tkC 5 (some 47) rfl hSu hSS ?_ (hy := fun w' hSw => (HOf.out _))
    refine tkC 6 (some 48) rfl hSu hSS ?_ (hy := fun w' hSw => (HLs.out _))
    refine tkC 7 (some 49) rfl hSu hSS ?_ (hy := fun w' hSw => (HAm.out _))
    refine wpAnyU_allocW (i := 8) (d := (some 14)) rfl rfl (by kernel_rfl) (by rfl) rfl hSu.out fun w3 hw3 => ?_
    try simp only [Act.put, pu1, pu2, pu3]
    refine wpAnyU_one (i := 9) rfl (by kernel_rfl) (by rfl) fun w4 hw4 => ?_
    refine wp_st_rowN infoW rfl _ _ rfl _ rfl rfl ((Row.up (row_newc _ 16 _ rfl) hw4)) ?_
    refine ⟨fun h => by simp at h, ?_⟩
    try simp only [Act.put, pu1, pu2, pu3]
    refine wpAnyU_done (by kernel_rfl) (fun wF huE => ?_) _
    have hP1 := ((Row.up (row_newc 107 16 (fun _ => 0) (rfl : w3.heap.size = w3.heap.size)) hw4).setRow (limb (enc A))).up huE
    have hx1 := hXM.trans (up_var (hS3.trans hw3) hw4 huE)
    clear hS1 hS2 hS3 hSB hSS hw3 hw4 huE hP
    have hGr := hG.up hx1
    obtain ⟨wB, hwB⟩ : ∃ x, wF = x := ⟨_, rfl⟩
    rw [hwB] at hP1 hx1 hGr ⊢
    clear hwB
    obtain ⟨b1, hb1⟩ : ∃ x, w3.heap.size = x := ⟨_, rfl⟩
    rw [hb1] at hP1 ⊢
    clear hb1
    obtain ⟨G, hGg⟩ : ∃ G, rsM n l x v i = G := ⟨_, rfl⟩
    rw [hGg] at hGr HCm HRs
    clear hGg hG
    by_cases hc : G < A
    ·have dc : decide (cmpZ A G > 0) = true := by unfold cmpZ; rw [if_neg (by omega), if_pos hc]; rfl
     rw [if_pos hc] at HRs
     clear hc
     go_wp2_with (first
      | ((with_reducible apply ld_rowP undW infoW); exact rfl; exact rfl; exact gRow)
      | (go_at_call 97; (with_reducible refine (HCm.out _).mono ?_); rintro r w5 ⟨rfl, hu5⟩; have hP5 := hP1.up hu5; have hG5 := hGr.up hu5)
      | ((with_reducible apply st_rowP infoW); exact rfl; exact rfl; exact hG5
         refine wpL_folded (fun wd => Up w2 wd /\ Row wd bG 107 16 (limb (enc A))) ⟨below_setRow (hu.trans (hx1.trans hu5)) (by omega) _, hG5.setRow _⟩ ?_
         rintro w6 ⟨hX6, hG6⟩))
     go_roundg (n - (i + 1))
     case measure => omega
     case rel => exact ⟨i + 1, hlt, Nat.le_refl _, rfl, by rw [HRs.out]; exact hG6, hX6⟩
    ·have dc : decide (cmpZ A G > 0) = false := by unfold cmpZ; by_cases h1 : A < G; rw [if_pos h1]; rfl; rw [if_neg h1, if_neg hc]; rfl
     rw [if_neg hc] at HRs
     clear hc
     go_wp2_with (first
      | ((with_reducible apply ld_rowP undW infoW); exact rfl; exact rfl; exact gRow)
      | (go_at_call 97; (with_reducible refine (HCm.out _).mono ?_); rintro r w5 ⟨rfl, hu5⟩; have hP5 := hP1.up hu5; have hG5 := hGr.up hu5))
     go_roundg (n - (i + 1))
     case measure => omega
     case rel => exact ⟨i + 1, hlt, Nat.le_refl _, rfl, by rw [HRs.out]; exact hG5, hu.trans (hx1.trans hu5)⟩
   ·obtain rfl : i = n := by omega
    have HI64 := hid (fun w => int64_z hGI w)
    have h0R := (HRb.out i hi).1
    by_cases hc : rsM i l x v i < 9223372036854775808
    ·rw [i64V_yes (by omega)] at HI64
     have HC3 : Hid (C = 0) := hid (by rw [HC2.out]; exact if_pos hc)
     have HV3 : Hid (V = rsM i l x v i) := hid (by rw [HV2.out, HC3.out]; rfl)
     generalize rsM i l x v i = G at *
     clear hc h0R
     (try unfold wideV at HI64)
     go_wp2_with (first
      | ((with_reducible apply ld_rowP undW infoW); exact rfl; exact rfl; exact gRow)
      | (go_at_call 75; (with_reducible refine (HI64.out _).mono ?_); rintro r w5 ⟨rfl, hu5⟩))
     go_ret2
     exact ⟨.nilIface, by rw [HV3.out]; rfl, hU2.trans (hu.trans hu5), .inl ⟨HC3.out, rfl⟩⟩
    ·rw [i64V_no (by omega)] at HI64
     have HC3 : Hid (C = 21) := hid (by rw [HC2.out]; exact if_neg hc)
     have HV3 : Hid (V = 0) := hid (by rw [HV2.out, HC3.out]; rfl)
     generalize rsM i l x v i = G at *
     clear hc h0R
     (try unfold wideV at HI64)
     go_wp2_with (first
      | ((with_reducible apply ld_rowP undW infoW); exact rfl; exact rfl; exact gRow)
      | (go_at_call 75; (with_reducible refine (HI64.out _).mono ?_); rintro r w5 ⟨rfl, hu5⟩)
      | (go_at_call 54; (with_reducible refine (HW21.out _).mono ?_); rintro r w6 ⟨u6, rfl, hu6, h6⟩))
     go_ret2
     exact ⟨u6, by rw [HV3.out]; rfl, hU2.trans (hu.trans (hu5.trans hu6)), by rw [HC3.out]; exact h6⟩
 ·have HC2 : Hid (C = F) := hid (by rw [<- HC.out]; unfold rsC; rw [HFF.out]; exact if_neg h0)
  have HV2 : Hid (V = 0) := hid (by rw [<- HVv.out]; unfold rsV; rw [HC.out, HC2.out]; exact if_neg h0)
  have H0 := hid h0
  clear h0
  go_wp2_with fail
  go_ret2
  exact ⟨.iface t y, by rw [HV2.out]; rfl, hU1, by rw [HC2.out]; exact .inr ⟨H0.out, t, y, rfl, hE⟩⟩
theorem undQ0 : (match Tryz.prog.underlying 53 with | some (.struct _) => true | _ => false) = true := by kernel_rfl
theorem undQ : ∃ fs, Tryz.prog.underlying 53 = some (.struct fs) := by
 have h := undQ0
 split at h
 ·exact ⟨_, by assumption⟩
 ·cases h
theorem infoQ : (Tryz.prog.info? 53).map (·.size) = some 2 := by kernel_rfl
theorem two3 (k : IntKind) (n : Int) (a : Option Addr) (m c : Nat) : (#[Value.slice a m c, Value.int k n]).all (·.oneCell') = true := by simp [Value.oneCell']
section
variable {ops : Array Oper} {rest : List Oper} {Q : Exit -> Act -> World -> Prop} {a : Act} {w : World} {d : Option Tmp} {s u : Tmp} {ty : TypeId} {pos : String} {af : Array Edge} {gd : Option (Nat × Bool)} {g : Nat} {C D : Array Value}
theorem ldQ_P (hw : Region.wanted { dst := d, op := .load 53 (.tmp s), type := ty, pos := pos, after := af, guard := gd } (yielded ops a.tmps) = true) (hx : a.eval (.tmp s) = .pointer (some ⟨g, 0, none⟩)) (hC : Blk w g 53 C) (h2 : C.size = 2)
   (h : wpList Tryz.prog ops Q rest (a.put d (.agg C)) w) : wpList Tryz.prog ops Q ({ dst := d, op := .load 53 (.tmp s), type := ty, pos := pos, after := af, guard := gd } :: rest) a w := by
 refine wpList_run hw ?_ h
 obtain ⟨fs, hu⟩ := undQ
 unfold execOp
 simp only [hx, Instr.loadAt, Instr.sureAddr, Sem.run_bind, Sem.run_pure, Result.andThen_ok, run_loadVar_row w g _ 53 C (0, 0) _ hC hu rfl (by rw [infoQ, h2])]
theorem stQ_P (hx : a.eval (.tmp s) = .pointer (some ⟨g, 0, none⟩)) (hy : a.eval (.tmp u) = .agg D) (hC : Blk w g 53 C) (h2 : C.size = 2) (h3 : D.size = 2) (h1 : D.all (·.oneCell') = true)
   (h : wpList Tryz.prog ops Q rest (a.put d undef) (w.setRow g D)) :
   wpList Tryz.prog ops Q ({ dst := d, op := .store 53 (.tmp s) (.tmp u), type := ty, pos := pos, after := af, guard := none } :: rest) a w :=
 wpList_plain rfl fun _ hK => wp_store_row _ _ _ rfl g D hx hy _ C hC (by rw [infoQ, h3]) (by rw [h2, h3]) h1 (hK _ _ h)
theorem wp_stQ {o : Oper} {K : Act -> World -> Prop} (hd : o.dst = none) {x y : Operand} (ho : o.op = .store 53 x y) (hx : a.eval x = .pointer (some ⟨g, 0, none⟩)) (hy : a.eval y = .agg D) (hC : Blk w g 53 C) (h2 : C.size = 2) (h3 : D.size = 2) (h1 : D.all (·.oneCell') = true)
   (h : K a (w.setRow g D)) : o.wp Tryz.prog a w K Q :=
 wp_store_row _ _ _ ho g D hx hy _ C hC (by rw [infoQ, h3]) (by rw [h2, h3]) h1 (by rw [hd]; exact h)
theorem run_ldMr {o : Oper} {ev : Operand -> Value} {x : Operand} {N : Int} {p : Option Addr} {n c off : Nat} (ho : o.op = .load 24 x) (hx : ev x = .pointer (some ⟨g, off, none⟩)) (hC : w.rangeAt g off [.int .i64 N, .slice p n c]) :
   (execOp ev o).run Tryz.prog w = .ok (.value (.agg #[.int .i64 N, .slice p n c])) w := by
 obtain ⟨fs, hu⟩ := undM
 unfold execOp
 simp only [ho, hx, Instr.loadAt, Instr.sureAddr, Sem.run_bind, Sem.run_pure, Result.andThen_ok, run_loadVar_mid w g off _ [.int .i64 N, .slice p n c] _ hC hu rfl (by rw [infoM]; rfl)]
end
theorem resQ2 {w : World} {fn : Func} {p u : Tmp} (h : fn.results = #[.cell p 53, .tmp u]) (tmps : Array Value) (g : Nat) (hp : tmps.getD p undef = .pointer (some ⟨g, 0, none⟩))
   {C : Array Value} (hC : Blk w g 53 C) (h2 : C.size = 2) : (results fn tmps).run Tryz.prog w = .ok (.tuple #[.agg C, tmps.getD u undef]) w := by
 obtain ⟨fs, hu⟩ := undQ
 rw [results_cell_tmp h, hp]
 simp only [asAddr, Sem.run_pure, Result.andThen_ok, run_loadVar_row w g _ 53 C (0, 0) _ hC hu rfl (by rw [infoQ, h2])]
theorem resQ3 {w : World} {fn : Func} {p u v : Tmp} (h : fn.results = #[.cell p 53, .tmp u, .tmp v]) (tmps : Array Value) (g : Nat) (hp : tmps.getD p undef = .pointer (some ⟨g, 0, none⟩))
   {C : Array Value} (hC : Blk w g 53 C) (h2 : C.size = 2) : (results fn tmps).run Tryz.prog w = .ok (.tuple #[.agg C, tmps.getD u undef, tmps.getD v undef]) w := by
 obtain ⟨fs, hu⟩ := undQ
 have hp' : tmps[p]?.getD undef = .pointer (some ⟨g, 0, none⟩) := by simpa using hp
 simp [results, h, hp', asAddr, run_loadVar_row w g _ 53 C (0, 0) _ hC hu rfl (by rw [infoQ, h2])]
theorem ErrsP.setRowQ {B : ByteArray} {w : World} {g : Nat} {t : TypeId} {C D : Array Value} {u : Value} {e : Int} (h : ErrsP B w u e) (hB : Blk w g t C) (ht : t ≠ 96) : ErrsP B (w.setRow g D) u e := by
 rcases h with h | ⟨h1, t', x, rfl, h2⟩
 ·exact .inl h
 ·refine .inr ⟨h1, t', x, rfl, ?_⟩
  obtain ⟨b, v, e1, e2, e3⟩ := h2
  refine ⟨b, v, e1, e2.row_other _ ?_, e3⟩
  rintro rfl
  unfold Blk at e2 hB
  rw [hB] at e2
  simp at e2
  exact ht e2.2
def plX (N : Int) (l x v : List Int) (xv : Value) : Value := if rsC N l x v = 0 then xv else .slice none 0 0
set_option maxHeartbeats 8000000 in
theorem placed_any {mv xv vv : Value} {N : Int} {l x v : List Int} {w : World} (hm : Sm w mv N l) (hx : Vw w xv x) (hv : Vw w vv v) (hIx : In64 x) (hIv : In64 v) (hsx : x.length <= 1000) (hsv : v.length <= 1000) :
   Calls Tryz.prog 39 #[mv, xv, vv] w fun r w' => Up w w' /\ ∃ z, r = .returned z /\ ∃ u, z = .tuple #[.agg #[plX N l x v xv, .int .i64 (rsV N l x v)], u] /\ ErrsP solveB w' u (rsC N l x v) := by
 have HR := hid (fun w' (hu : Up w w') => residual_any (hm.up hu) (hx.up hu) (hv.up hu) hIx hIv hsx hsv)
 obtain ⟨px, cx, rfl, -, -⟩ := hx
 obtain ⟨pv, cv, rfl, -, -⟩ := hv
 obtain ⟨s, rfl, ⟨p, cap, rfl, -, -⟩, -, -, -⟩ := hm
 obtain ⟨W0, hW0⟩ : ∃ W0, (w.alloc (.cells #[.int .i64 N, .slice p l.length cap] 24)).alloc (.cells #[.slice none 0 0, .int .i64 0] 53) = W0 := ⟨_, rfl⟩
 have hB : Blk W0 w.heap.size 24 #[.int .i64 N, .slice p l.length cap] := by rw [<- hW0]; exact (Blk.new _ _ rfl).old _
 have hQ : Blk W0 (w.heap.size + 1) 53 #[.slice none 0 0, .int .i64 0] := by rw [<- hW0]; exact Blk.new _ _ (by simp)
 have hU : Up w W0 := by rw [<- hW0]; exact (Up.alloc _ _).trans (Up.alloc _ _)
 unfold ResPost at HR
 have HP : Hid (∀ y, plX N l x v y = if rsC N l x v = 0 then y else .slice none 0 0) := hid (fun y => rfl)
 have HV : Hid (rsC N l x v ≠ 0 -> rsV N l x v = 0) := hid (fun h => if_neg h)
 generalize plX N l x v = PX at *
 generalize rsV N l x v = V at *
 generalize rsC N l x v = C at *
 clear hIx hIv hsx hsv
 go_enter Tryz.func39, Tryz.ntmps39
 go_upto_region 2 with (first
  | ((with_reducible apply ldM_P); exact rfl; exact rfl; exact hB; exact rfl)
  | (go_at_call 64; (with_reducible refine (HR.out _ hU).mono ?_); rintro r w1 ⟨u1, rfl, hu1, h1⟩; have hQ1 := hQ.up hu1; have hU1 := hU.trans hu1))
 rcases h1 with ⟨h0, rfl⟩ | ⟨h0, t, y, rfl, hE⟩
 ·have HP2 := hid (HP.out (.slice px x.length cx))
  rw [if_pos h0] at HP2
  clear hW0
  have H0 := hid h0
  clear h0
  go_wp2_with (first
   | ((with_reducible apply stQ_P); exact rfl; exact rfl; exact hQ1; exact rfl; exact rfl; exact two3 _ _ _ _ _))
  exact bodyPost_ret (resQ2 rfl _ _ rfl (Blk.setRow hQ1 _) rfl) rfl ⟨below_setRow hU1 (by omega) _, _, rfl, .nilIface, by rw [HP2.out]; rfl, .inl ⟨H0.out, rfl⟩⟩
 ·have HP2 := hid (HP.out (.slice px x.length cx))
  rw [if_neg h0] at HP2
  have HV2 := hid (HV.out h0)
  have H0 := hid h0
  clear hW0 h0
  go_wp2_with (first
   | ((with_reducible apply stQ_P); exact rfl; exact rfl; exact hQ1; exact rfl; exact rfl; exact two3 _ _ _ _ _))
  exact bodyPost_ret (resQ2 rfl _ _ rfl (Blk.setRow hQ1 _) rfl) rfl ⟨below_setRow hU1 (by omega) _, _, rfl, .iface t y, by rw [HP2.out, HV2.out]; rfl, ErrsP.setRowQ (.inr ⟨H0.out, t, y, rfl, hE⟩) hQ1 (by decide)⟩
def cgB : ByteArray := ⟨#[99, 103]⟩
def ErrsC (w : World) (u : Value) (e : Int) : Prop := (e = 0 /\ u = .nilIface) \/ (e ≠ 0 /\ ∃ t x, u = .iface t x /\ IsEr w u (.flt cgB (.flt solveB (.num e))))
theorem ErrsC.up {w w' : World} (hu : Up w w') {u : Value} {e : Int} (h : ErrsC w u e) : ErrsC w' u e := by
 rcases h with h | ⟨h1, t, x, h2, h3⟩
 ·exact .inl h
 ·exact .inr ⟨h1, t, x, h2, h3.up hu⟩
theorem ErrsC.setRow {w : World} {g : Nat} {t : TypeId} {C D : Array Value} {u : Value} {e : Int} (h : ErrsC w u e) (hB : Blk w g t C) (ht : t ≠ 96) : ErrsC (w.setRow g D) u e := by
 have key : ∀ {b E}, Blk w b 96 E -> Blk (w.setRow g D) b 96 E := fun {b E} e2 => by
  refine e2.row_other _ ?_
  rintro rfl
  unfold Blk at e2 hB
  rw [hB] at e2
  simp at e2
  exact ht e2.2
 rcases h with h | ⟨h1, t', x, rfl, h2⟩
 ·exact .inl h
 ·obtain ⟨b, v, e1, e2, b', v', e3, e4, e5⟩ := h2
  exact .inr ⟨h1, t', x, rfl, b, v, e1, key e2, b', v', e3, key e4, e5⟩
theorem cgwrong_any {u : Value} {e : Int} {w : World} (h : ErrsP solveB w u e) :
   Calls Tryz.prog 29 #[u] w fun r w' => ∃ v, r = .returned v /\ Up w w' /\ ErrsC w' v e := by
 rcases h with ⟨h0, rfl⟩ | ⟨h0, t, x, rfl, hE⟩
 ·have HW := hid (fun w => wrap_nil { data := #[99, 103] } w)
  go_enter Tryz.func29, Tryz.ntmps29
  go_wp2_with (first | (go_at_call 55; (with_reducible refine (HW.out _).mono ?_); rintro r w1 ⟨rfl, rfl⟩))
  go_ret
  exact ⟨_, rfl, Up.refl _, .inl ⟨h0, rfl⟩⟩
 ·have HW := hid (wrap_any (op := { data := #[99, 103] }) hE)
  have H0 := hid h0
  clear h0 hE
  go_enter Tryz.func29, Tryz.ntmps29
  go_wp2_with (first | (go_at_call 55; (with_reducible refine (HW.out).mono ?_); rintro r w1 ⟨u1, rfl, hu1, h1⟩))
  go_ret
  obtain ⟨t', u, rfl⟩ := h1.iface
  exact ⟨_, rfl, hu1, .inr ⟨H0.out, t', u, rfl, h1⟩⟩
def WayOk (w : World) (b n : Nat) (A vv : Value) : Prop := ∃ rv xv lv dv, Blk w b 126 #[.int .i64 (n : Int), A, vv, rv, xv, lv, dv] /\ Rs w rv n n /\ Ws w xv n /\ Ws w lv n /\ Ws w dv n
theorem grown_ahead {w w1 w2 : World} {b : Nat} (h : w.grownBy w1 (some b)) (hb : Below w.heap.size w1 w2) : w.grownBy w2 (some b) :=
 ⟨hb.os.trans h.os, hb.tape.trans h.tape, hb.output.trans h.output, Nat.le_trans h.size hb.size, fun k hk hne => (hb.block k hk).trans (h.block k hk hne)⟩
theorem grown_up2 {w w1 w2 : World} {b : Nat} (hu : Up w w1) (h : w1.grownBy w2 (some b)) (hb : w.heap.size <= b) : Up w w2 :=
 ⟨h.os.trans hu.os, h.tape.trans hu.tape, h.output.trans hu.output, Nat.le_trans hu.size h.size, fun k hk => (h.block k (Nat.lt_of_lt_of_le hk hu.size) (fun e => by injection e with e; omega)).trans (hu.block k hk)⟩
theorem vw_cells {w : World} {v : Value} {l : List Int} {n : Nat} (h : Vw w v l) (hl : l.length = n) : ∃ p c, v = .slice p n c /\ ∀ w', Up w w' -> ∀ i, i < n -> ∃ ad, p = some ad /\ w'.cell? (ad.add i) = some (.int .i64 (zth l i)) := by
 obtain ⟨p, c, rfl, -, h2⟩ := h
 subst hl
 exact ⟨p, c, rfl, fun w' hu i hi => by
  obtain ⟨ad, h3, h4⟩ := h2 i hi
  exact ⟨ad, h3, hu.cell h4⟩⟩
set_option maxHeartbeats 16000000 in
theorem begin_any {mv sv vv : Value} {n : Nat} {l st V : List Int} {w : World} (hm : Sm w mv n l) (hR : rt n l = true) (hs : Vw w sv st) (hv : Vw w vv V) (hsl : st.length = n) (hvl : V.length = n) (hIs : In64 st) (hIv : In64 V) :
   Calls Tryz.prog 40 #[mv, sv, vv] w fun r w' => ∃ b A, mv = .agg #[.int .i64 (n : Int), A] /\ r = .returned (.pointer (some ⟨b, 0, none⟩)) /\ w.heap.size <= b /\ Up w w' /\ WayOk w' b n A vv := by
 have n8 : n <= 8 := by have := (rt_spec hR).2.1; omega
 have HSq := hid (fun w' (hu : Up w w') => cgsquare_any (hm.up hu) hR)
 have HV := hid (fun w' (hu : Up w w') => Vw.up hu hv)
 have HIV := hid hIv
 have HVL := hid hvl
 have HIS := hid (fun i (hi : i < n) => (hIs i (by omega) : I64 (zth st i)))
 obtain ⟨ps, cs, rfl, hcs⟩ := vw_cells hs hsl
 have HCS := hid hcs
 obtain ⟨pv, cv, rfl, -⟩ := vw_cells hv hvl
 obtain ⟨s, rfl, ⟨p, cap, rfl, -, -⟩, -, -, -⟩ := hm
 obtain ⟨W0, hW0⟩ : ∃ x, w.alloc (.cells #[.int .i64 (n : Int), .slice p l.length cap] 24) = x := ⟨_, rfl⟩
 have hB : Blk W0 w.heap.size 24 #[.int .i64 (n : Int), .slice p l.length cap] := by rw [<- hW0]; exact Blk.new _ _ rfl
 have hU : Up w W0 := by rw [<- hW0]; exact Up.alloc _ _
 obtain ⟨b0, hb0⟩ : ∃ y, w.heap.size = y := ⟨_, rfl⟩
 rw [hb0] at hB
 clear hs hv hR hsl hvl hIs hIv hcs
 go_enter Tryz.func40, Tryz.ntmps40
 go_wp2_with fail
 refine wp_region_sp (n := 47) 7 [10, 11, 12, 13, 14, 15, 7] [SP.is (.agg #[.int .i64 (n : Int), .slice p l.length cap]), SP.is (.slice pv n cv), SP.is (.agg #[.int .i64 (n : Int), .slice p l.length cap]), SP.of (fun v w1 => Rs w1 v n n) (fun _ _ _ h hu => h.up hu), SP.of (fun v w1 => ∃ rp rc, v = .agg #[.int .i64 (n : Int), .slice p l.length cap, .slice pv n cv, .slice rp n rc, .slice none 0 0, .slice none 0 0, .slice none 0 0] /\ Rs w1 (.slice rp n rc) n n) (fun _ _ _ h hu => h.imp fun _ k => k.imp fun _ j => ⟨j.1, j.2.up hu⟩), SP.of (fun v w1 => ∃ b rp rc, v = .pointer (some ⟨b, 0, none⟩) /\ w.heap.size <= b /\ Blk w1 b 126 #[.int .i64 (n : Int), .slice p l.length cap, .slice pv n cv, .slice rp n rc, .slice none 0 0, .slice none 0 0, .slice none 0 0] /\ Rs w1 (.slice rp n rc) n n) (fun _ _ _ h hu => (by obtain ⟨b, rp, rc, h1, h2, h3, h4⟩ := h; exact ⟨b, rp, rc, h1, h2, h3.up hu, h4.up hu⟩)), SP.of (fun v w1 => ∃ b rp rc, v = .pointer (some ⟨b, 0, none⟩) /\ w.heap.size <= b /\ Blk w1 b 126 #[.int .i64 (n : Int), .slice p l.length cap, .slice pv n cv, .slice rp n rc, .slice none 0 0, .slice none 0 0, .slice none 0 0] /\ Rs w1 (.slice rp n rc) n n) (fun _ _ _ h hu => (by obtain ⟨b, rp, rc, h1, h2, h3, h4⟩ := h; exact ⟨b, rp, rc, h1, h2, h3.up hu, h4.up hu⟩))] (fun wq => Blk wq b0 24 #[.int .i64 (n : Int), .slice p l.length cap] /\ Up w wq /\ Below w.heap.size w wq) (by kernel_rfl) (by rfl) (by kernel_rfl) (by kernel_rfl) (fun _ _ h hu => ⟨(h.1).up hu, (h.2.1).trans hu, below_up (h.2.2) hu⟩) ⟨(by first | assumption | exact gBlk), (by first | exact Up.refl _ | assumption), gUp⟩ (fun ev w9 hS9 i o hne hi hev => ?_) (fun gR wE hq hSE huE => ?_)
 ·have ⟨hS1, hS2, hSB⟩ := hS9
  have hcC := hev.const
  have hcF := hev.func
  have hcG := hev.global
  rcases i with _ | _ | _ | _ | _ | _ | _ | i
  ·obtain rfl := oI hi
   have e3 := hev.other 3 (by kernel_rfl)
   simp [Act.eval] at e3
   exact leavesR_value (run_ldME rfl (by go_simp) hS1 rfl) rfl
  ·obtain rfl := oI hi
   have e2 := hev.other 2 (by kernel_rfl)
   simp [Act.eval] at e2
   exact lV (.slice pv n cv)
  ·obtain rfl := oI hi
   have e3 := hev.other 3 (by kernel_rfl)
   simp [Act.eval] at e3
   exact leavesR_value (run_ldME rfl (by go_simp) hS1 rfl) rfl
  ·obtain rfl := oI hi
   have e12 : ev (.tmp 12) = (.agg #[.int .i64 (n : Int), .slice p l.length cap]) := hev.dep 2 12 (by kernel_rfl)
   refine leavesR_call ?_ (HSq.out _ hS2)
   go_simp
  ·obtain rfl := oI hi
   have e10 : ev (.tmp 10) = (.agg #[.int .i64 (n : Int), .slice p l.length cap]) := hev.dep 0 10 (by kernel_rfl)
   have e11 : ev (.tmp 11) = (.slice pv n cv) := hev.dep 1 11 (by kernel_rfl)
   have e13 : (fun v w1 => Rs w1 v n n) (ev (.tmp 13)) w9 := hev.dep 3 13 (by kernel_rfl)
   dsimp only at e13
   obtain ⟨v13, hv13⟩ : ∃ v, ev (.tmp 13) = v := ⟨_, rfl⟩
   rw [hv13] at e13
   obtain ⟨rp, rc, rfl⟩ := e13.slice; exact leavesR_value (u := .agg #[.int .i64 (n : Int), .slice p l.length cap, .slice pv n cv, .slice rp n rc, .slice none 0 0, .slice none 0 0, .slice none 0 0]) (by go_simp) ⟨rp, rc, rfl, e13⟩
  ·obtain rfl := oI hi
   have e14 : (fun v w1 => ∃ rp rc, v = .agg #[.int .i64 (n : Int), .slice p l.length cap, .slice pv n cv, .slice rp n rc, .slice none 0 0, .slice none 0 0, .slice none 0 0] /\ Rs w1 (.slice rp n rc) n n) (ev (.tmp 14)) w9 := hev.dep 4 14 (by kernel_rfl)
   dsimp only at e14
   obtain ⟨v14, hv14⟩ : ∃ v, ev (.tmp 14) = v := ⟨_, rfl⟩
   rw [hv14] at e14
   obtain ⟨rp, rc, rfl, hr⟩ := e14; exact leavesR_up (u := .pointer (some ⟨w9.heap.size, 0, none⟩)) (w' := w9.alloc (.cells #[.int .i64 (n : Int), .slice p l.length cap, .slice pv n cv, .slice rp n rc, .slice none 0 0, .slice none 0 0, .slice none 0 0] 126)) (by go_simp) (Up.alloc _ _) ⟨_, rp, rc, rfl, hS2.size, Blk.new _ _ rfl, hr.up (Up.alloc _ _)⟩
  ·obtain rfl := oI hi
   have e15 : (fun v w1 => ∃ b rp rc, v = .pointer (some ⟨b, 0, none⟩) /\ w.heap.size <= b /\ Blk w1 b 126 #[.int .i64 (n : Int), .slice p l.length cap, .slice pv n cv, .slice rp n rc, .slice none 0 0, .slice none 0 0, .slice none 0 0] /\ Rs w1 (.slice rp n rc) n n) (ev (.tmp 15)) w9 := hev.dep 5 15 (by kernel_rfl)
   dsimp only at e15
   obtain ⟨v15, hv15⟩ : ∃ v, ev (.tmp 15) = v := ⟨_, rfl⟩
   rw [hv15] at e15
   exact leavesR_value (u := v15) (by go_simp) e15
  ·exact absurd (show i + 7 < 7 from (Array.getElem?_eq_some_iff.1 hi).1) (by omega)
 have ⟨hS1, hS2, hSB⟩ := hSE
 have q0 : gR 10 = (.agg #[.int .i64 (n : Int), .slice p l.length cap]) := hq 0 10 (by decide) (by kernel_rfl)
 have q1 : gR 11 = (.slice pv n cv) := hq 1 11 (by decide) (by kernel_rfl)
 have q2 : gR 12 = (.agg #[.int .i64 (n : Int), .slice p l.length cap]) := hq 2 12 (by decide) (by kernel_rfl)
 have q3 : (fun v w1 => Rs w1 v n n) (gR 13) wE := hq 3 13 (by decide) (by kernel_rfl)
 dsimp only at q3
 obtain ⟨v13, hv13⟩ : ∃ v, gR 13 = v := ⟨_, rfl⟩
 rw [hv13] at q3
 have q4 : (fun v w1 => ∃ rp rc, v = .agg #[.int .i64 (n : Int), .slice p l.length cap, .slice pv n cv, .slice rp n rc, .slice none 0 0, .slice none 0 0, .slice none 0 0] /\ Rs w1 (.slice rp n rc) n n) (gR 14) wE := hq 4 14 (by decide) (by kernel_rfl)
 dsimp only at q4
 obtain ⟨v14, hv14⟩ : ∃ v, gR 14 = v := ⟨_, rfl⟩
 rw [hv14] at q4
 have q5 : (fun v w1 => ∃ b rp rc, v = .pointer (some ⟨b, 0, none⟩) /\ w.heap.size <= b /\ Blk w1 b 126 #[.int .i64 (n : Int), .slice p l.length cap, .slice pv n cv, .slice rp n rc, .slice none 0 0, .slice none 0 0, .slice none 0 0] /\ Rs w1 (.slice rp n rc) n n) (gR 15) wE := hq 5 15 (by decide) (by kernel_rfl)
 dsimp only at q5
 obtain ⟨v15, hv15⟩ : ∃ v, gR 15 = v := ⟨_, rfl⟩
 rw [hv15] at q5
 have q6 : (fun v w1 => ∃ b rp rc, v = .pointer (some ⟨b, 0, none⟩) /\ w.heap.size <= b /\ Blk w1 b 126 #[.int .i64 (n : Int), .slice p l.length cap, .slice pv n cv, .slice rp n rc, .slice none 0 0, .slice none 0 0, .slice none 0 0] /\ Rs w1 (.slice rp n rc) n n) (gR 7) wE := hq 6 7 (by decide) (by kernel_rfl)
 dsimp only at q6
 obtain ⟨v7, hv7⟩ : ∃ v, gR 7 = v := ⟨_, rfl⟩
 rw [hv7] at q6
 refine ⟨fun _ => ?_, fun o ho => by simp at ho⟩
 simp only [putL, List.map_cons, List.map_nil, q0, q1, q2, hv13, hv14, hv15, hv7, Act.put, pu1, pu2, pu3]
 clear hq hSE q0 q1 q2
 obtain ⟨b, rp, rc, rfl, hbw, hBw, hRs⟩ := q6
 have hUE := hS2
 clear q3 q4 q5 hS1 hS2 hSB huE hv13 hv14 hv15 hv7 hB hU hW0 hb0 HSq
 have hbl := hBw.lt
 go_wp2_with fail
 go_loopg [18] n (fun g ti wr => ∃ (k : Nat) (xv : Value), k <= n /\ n - k <= g /\ ti = .int .i64 (k : Nat) /\ Blk wr b 126 #[.int .i64 (n : Int), .slice p l.length cap, .slice pv n cv, .slice rp n rc, xv, .slice none 0 0, .slice none 0 0] /\ OwnWs wr wE.heap.size xv k /\ wE.grownBy wr (some b))
 case atStart => exact ⟨0, _, Nat.zero_le _, by omega, rfl, hBw, OwnWs.nil _ _, grown_up (Up.refl _)⟩
 case round =>
  obtain ⟨k, xv, hk, hkg, rfl, hBr, hO, hg⟩ := hrel
  have hur := grown_up2 hUE hg hbw
  by_cases hlt : k < n
  ·obtain ⟨ad, rfl, hck⟩ := HCS.out _ hur k hlt
   obtain ⟨px, cx, rfl⟩ := hO.slice
   obtain ⟨P, hP, HPt⟩ := parts_w (HIS.out k hlt)
   have HPt := hid HPt
   have HP := hid hP
   have e1 : IntKind.i64.wrap ((k : Int) + 1) = (k : Int) + 1 := IntWalk.i64_in _ (by omega)
   have hc4 : wr.cell? ⟨b, 4, none⟩ = some (.slice px k cx) := hBr.cell 4 rfl
   have hBl : Bel wE.heap.size wr wr := ⟨hg.size, Below.refl _ _⟩
   have hgs := hg.size
   obtain ⟨vi, hvi⟩ : ∃ y, zth st k = y := ⟨_, rfl⟩
   rw [hvi] at hck HPt
   clear hvi hP HCS HIS
   unfold wideV at HPt
   go_wp2_with fail
   refine opUw (S := (fun wq => wq.cell? ⟨b, 4, none⟩ = some (.slice px k cx) /\ Bel wE.heap.size wr wq)) (req := (fun j => j != 11)) (fun _ _ h hu => ⟨hu.cell (h.1), Bel.up (h.2) hu⟩) ⟨(by first | assumption | (apply Blk.cell; exact gBlk; exact rfl)), (by assumption)⟩ (fun wS hwS0 hSS hSu => ?_)
   have ⟨hS1, hSB⟩ := hSS
   refine tkP 0 (some 22) hSu ?_
   refine tkP 1 (some 23) hSu ?_
   refine tkP 2 (some 24) hSu ?_
   refine tkP 3 (some 25) hSu ?_
   refine tkT 4 (some 26) rfl hSu hSS ?_ (hy := fun w' hSw => by ((try dsimp only at hSw); (try obtain ⟨_, _⟩ := hSw); go_simp; (try exact rfl)))
   refine tkP 5 (some 27) hSu ?_
   refine tkC 6 (some 28) rfl hSu hSS ?_ (hy := fun w' hSw => (HPt.out _))
   refine wpAnyU_one (i := 7) rfl (by kernel_rfl) (by rfl) fun w6 hw6 => ?_
   refine bsW_wp (z := P) rfl rfl ?_
   refine ⟨fun _ hs => hSu.out _ _ hs (Up.alloc _ _), ?_⟩
   try simp only [Act.put, pu1]
   refine wpAnyU_one (i := 8) rfl (by kernel_rfl) (by rfl) fun w7 hw7 => ?_
   have hx7 := hwS0.trans (hw6.trans ((Up.alloc _ _).trans hw7))
   have hs7 := hx7.size
   refine appWs_wp (z := P) (n := k) rfl rfl rfl (hO.up hx7) (rangeW_up hw7 (one_range rfl)) HP.out (by omega) (by omega) ?_
   rintro v8 w8 hO8 - hb8
   refine ⟨fun _ hs => ⟨(Below.cell hb8 hbl).trans hs.1, Nat.le_trans hs.2.1 hb8.size, Below.trans hs.2.2 hb8⟩, ?_⟩
   obtain ⟨p8, c8, rfl⟩ := hO8.slice
   have hu8 : Below wE.heap.size wr w8 := Below.trans (Below.mono hx7 (by omega)) hb8
   try simp only [Act.put]
   refine tkP 9 (some 31) hSu ?_
   refine tkP 10 (some 32) hSu ?_
   refine wpAnyU_one (i := 11) rfl (by kernel_rfl) (by rfl) fun w9 hw9 => ?_
   have hu9 : Below wE.heap.size wr w9 := Below.trans hu8 (Below.mono hw9 (by have := hu8.size; omega))
   have hB9 := hBr.ahead hu9 hbl
   have hcW := hB9.cell 4 rfl
   have hfW := hB9.frozen 4
   go_simp
   clear hcW hfW
   refine wpAnyU_done (by kernel_rfl) (fun wF huE => ?_) _
   have hBF : Blk wF b 126 #[.int .i64 (n : Int), .slice p l.length cap, .slice pv n cv, .slice rp n rc, .slice p8 (k + 1) c8, .slice none 0 0, .slice none 0 0] := (hB9.set 4 (.slice p8 (k + 1) c8)).up huE
   have hOF := ((hO8.up hw9).setCell (a := ⟨b, 4, none⟩) hbl (.slice p8 (k + 1) c8)).up huE
   have hgF := grown_trans (grown_trans (grown_ahead hg hu9) (grown_cell (b := b) (i := 4) (.slice p8 (k + 1) c8))) (grown_up huE)
   clear hu9 hu8 hx7 hB9 hO8 hb8 hw9 hw7 hw6 hwS0 huE hBr hO hg hc4 hSS hSu hS1 hSB hBl hck
   obtain ⟨wK, hwK⟩ : ∃ x, wF = x := ⟨_, rfl⟩
   rw [hwK] at hBF hOF hgF ⊢
   clear hwK
   go_wp2_with fail
   go_roundg (n - (k + 1))
   case measure => omega
   case rel => exact ⟨k + 1, _, hlt, Nat.le_refl _, rfl, hBF, hOF, hgF⟩
  ·have hkn : k = n := by omega
   subst hkn
   have hXs := hO.ws
   obtain ⟨px, cx, rfl⟩ := hO.slice
   have hRr : Rs wr (.slice rp k rc) k k := hRs.kept hBw (by decide) (by decide) hg
   have hVr := HV.out _ hur
   have HRe := hid (fun w' (hu : Up wr w') => rest_any (hBr.up hu) (Vw.up hu hVr) HVL.out HIV.out (hRr.up hu) (hXs.up hu) n8)
   go_upto_region 8 with (first
    | (go_at_call 67; (with_reducible refine (HRe.out _ (Up.refl _)).mono ?_); rintro r w7 ⟨hu7, _, rfl, b7, hb7, hO7⟩; obtain ⟨p7, c7, rfl⟩ := hO7.slice; have hcW := (hBr.up hu7).cell 5 rfl; have hfW := (hBr.up hu7).frozen 5))
   have hB7 := hBr.up hu7
   have hB8 : Blk (w7.setCell ⟨b, 5, none⟩ (.slice p7 k c7)) b 126 #[.int .i64 (k : Int), .slice p l.length cap, .slice pv k cv, .slice rp k rc, .slice px k cx, .slice p7 k c7, .slice none 0 0] := hB7.set 5 _
   have g8 := grown_cell (w := w7) (b := b) (i := 5) (.slice p7 k c7)
   have hX8 := (hXs.up hu7).kept hB7 (by decide) g8
   have hR8 := (hRr.up hu7).kept hB7 (by decide) (by decide) g8
   have hL8 := hO7.ws.kept hB7 (by decide) g8
   have hg8 := grown_trans hg (grown_trans (grown_up hu7) g8)
   clear hcW hfW hB7 g8
   obtain ⟨w8, hw8⟩ : ∃ x, w7.setCell ⟨b, 5, none⟩ (.slice p7 k c7) = x := ⟨_, rfl⟩
   rw [hw8] at hB8 hX8 hR8 hL8 hg8 ⊢
   clear hw8
   have hc5 : w8.cell? ⟨b, 5, none⟩ = some (.slice p7 k c7) := hB8.cell 5 rfl
   have hc6 : w8.cell? ⟨b, 6, none⟩ = some (.slice none 0 0) := hB8.cell 6 rfl
   have hf6 := hB8.frozen 6
   go_wp2_with fail
   go_ret
   have g9 := grown_cell (w := w8) (b := b) (i := 6) (.slice p7 k c7)
   exact ⟨b, _, rfl, rfl, hbw, grown_up2 hUE (grown_trans hg8 g9) hbw, _, _, _, _, hB8.set 6 _, hR8.kept hB8 (by decide) (by decide) g9, hX8.kept hB8 (by decide) g9, hL8.kept hB8 (by decide) g9, hL8.kept hB8 (by decide) g9⟩
theorem moved_v {va vd a b : Value} {n : Nat} {w : World} (hA : Ws w va n) (hD : Ws w vd n) (ha : WV a) (hb' : WV b) (hn : n <= 8) :
   Calls Tryz.prog 71 #[va, vd, a, b] w fun r w' => Up w w' /\ ∃ v, r = .returned v /\ Ws w' v n := by
 obtain ⟨x, hx, rfl⟩ := ha
 obtain ⟨y, hy, rfl⟩ := hb'
 exact (moved_any hA hD hx hy hn).mono fun _ _ h => ⟨h.1, by obtain ⟨v, h1, _, _, h2⟩ := h.2; exact ⟨v, h1, h2.ws⟩⟩
theorem minus_v {a : Value} {w : World} (ha : WV a) : Calls Tryz.prog 72 #[a] w fun r w' => Up w w' /\ ∃ v, r = .returned v /\ WV v := by
 obtain ⟨x, hx, rfl⟩ := ha
 obtain ⟨z, hz, h⟩ := cgminus_w hx
 exact (h w).mono fun _ _ h => ⟨h.2, _, h.1, z, hz, rfl⟩
theorem times_v {rv xv : Value} {n : Nat} {w : World} (hR : Rs w rv n n) (hX : Ws w xv n) (hn : n <= 8) :
   Calls Tryz.prog 68 #[rv, xv] w fun r w' => Up w w' /\ ∃ v, r = .returned v /\ Ws w' v n :=
 (cgtimes_any hR hX hn).mono fun _ _ h => ⟨h.1, by obtain ⟨v, h1, _, _, h2⟩ := h.2; exact ⟨v, h1, h2.ws⟩⟩
theorem WayOk.up {w w' : World} {b n : Nat} {A vv : Value} (hu : Up w w') (h : WayOk w b n A vv) : WayOk w' b n A vv := by
 obtain ⟨rv, xv, lv, dv, h1, h2, h3, h4, h5⟩ := h
 exact ⟨rv, xv, lv, dv, h1.up hu, h2.up hu, h3.up hu, h4.up hu, h5.up hu⟩
set_option maxHeartbeats 32000000 in
theorem cgstep_any {b n : Nat} {A vv : Value} {V : List Int} {w : World} (hw : WayOk w b n A vv) (hV : ∀ w', w.grownBy w' (some b) -> Vw w' vv V) (hVl : V.length = n) (hI : In64 V) (hn : n <= 8) :
   Calls Tryz.prog 41 #[.pointer (some ⟨b, 0, none⟩)] w fun r w' => ∃ k, r = .returned (.bool k) /\ w.grownBy w' (some b) /\ WayOk w' b n A vv := by
 obtain ⟨rv, xv, lv, dv, hB, hR, hX, hL, hD⟩ := hw
 have HT := hid (fun w' (hu : Up w w') => times_v (hR.up hu) (hD.up hu) hn)
 have HV := hid hV
 have HIV := hid hI
 have HVL := hid hVl
 obtain ⟨pr, cr, rfl⟩ := hR.slice
 obtain ⟨px, cx, rfl⟩ := hX.slice
 obtain ⟨pl, cl, rfl⟩ := hL.slice
 obtain ⟨py, cd, rfl⟩ := hD.slice
 have hc3 : w.cell? ⟨b, 3, none⟩ = some (.slice pr n cr) := hB.cell 3 rfl
 have hc6 : w.cell? ⟨b, 6, none⟩ = some (.slice py n cd) := hB.cell 6 rfl
 clear hV hVl hI
 go_enter Tryz.func41, Tryz.ntmps41
 go_wp2_with fail
 refine wp_region_sp (n := 70) 10 [5, 6, 7, 8, 9, 10, 11, 12, 13, 3] [SP.is (.pointer (some ⟨b, 0, none⟩)), SP.is (.pointer (some ⟨b, 0, none⟩)), SP.is (.pointer (some ⟨b, 3, none⟩)), SP.is (.slice pr n cr), SP.is (.pointer (some ⟨b, 0, none⟩)), SP.is (.pointer (some ⟨b, 0, none⟩)), SP.is (.pointer (some ⟨b, 6, none⟩)), SP.is (.slice py n cd), SP.of (fun v w1 => Ws w1 v n) (fun _ _ _ h hu => h.up hu), SP.of (fun v w1 => Ws w1 v n) (fun _ _ _ h hu => h.up hu)] (fun wq => wq.cell? ⟨b, 3, none⟩ = some (.slice pr n cr) /\ wq.cell? ⟨b, 6, none⟩ = some (.slice py n cd) /\ Up w wq /\ Below w.heap.size w wq) (by kernel_rfl) (by rfl) (by kernel_rfl) (by kernel_rfl) (fun _ _ h hu => ⟨hu.cell (h.1), hu.cell (h.2.1), (h.2.2.1).trans hu, below_up (h.2.2.2) hu⟩) ⟨(by assumption), (by assumption), (by first | exact Up.refl _ | assumption), gUp⟩ (fun ev w9 hS9 i o hne hi hev => ?_) (fun gR wE hq hSE huE => ?_)
 ·have ⟨hS1, hS2, hS3, hSB⟩ := hS9
  have hcC := hev.const
  have hcF := hev.func
  have hcG := hev.global
  rcases i with _ | _ | _ | _ | _ | _ | _ | _ | _ | _ | i
  ·obtain rfl := oI hi
   have e0 := hev.other 0 (by kernel_rfl)
   simp [Act.eval] at e0
   exact lV (.pointer (some ⟨b, 0, none⟩))
  ·obtain rfl := oI hi
   have e5 : ev (.tmp 5) = (.pointer (some ⟨b, 0, none⟩)) := hev.dep 0 5 (by kernel_rfl)
   exact lV (.pointer (some ⟨b, 0, none⟩))
  ·obtain rfl := oI hi
   have e6 : ev (.tmp 6) = (.pointer (some ⟨b, 0, none⟩)) := hev.dep 1 6 (by kernel_rfl)
   exact lV (.pointer (some ⟨b, 3, none⟩))
  ·obtain rfl := oI hi
   have e7 : ev (.tmp 7) = (.pointer (some ⟨b, 3, none⟩)) := hev.dep 2 7 (by kernel_rfl)
   exact leavesR_value (u := .slice pr n cr) (by go_simp) rfl
  ·obtain rfl := oI hi
   have e0 := hev.other 0 (by kernel_rfl)
   simp [Act.eval] at e0
   exact lV (.pointer (some ⟨b, 0, none⟩))
  ·obtain rfl := oI hi
   have e9 : ev (.tmp 9) = (.pointer (some ⟨b, 0, none⟩)) := hev.dep 4 9 (by kernel_rfl)
   exact lV (.pointer (some ⟨b, 0, none⟩))
  ·obtain rfl := oI hi
   have e10 : ev (.tmp 10) = (.pointer (some ⟨b, 0, none⟩)) := hev.dep 5 10 (by kernel_rfl)
   exact lV (.pointer (some ⟨b, 6, none⟩))
  ·obtain rfl := oI hi
   have e11 : ev (.tmp 11) = (.pointer (some ⟨b, 6, none⟩)) := hev.dep 6 11 (by kernel_rfl)
   exact leavesR_value (u := .slice py n cd) (by go_simp) rfl
  ·obtain rfl := oI hi
   have e8 : ev (.tmp 8) = (.slice pr n cr) := hev.dep 3 8 (by kernel_rfl)
   have e12 : ev (.tmp 12) = (.slice py n cd) := hev.dep 7 12 (by kernel_rfl)
   refine leavesR_call ?_ (HT.out _ hS3)
   go_simp
  ·obtain rfl := oI hi
   have e13 : (fun v w1 => Ws w1 v n) (ev (.tmp 13)) w9 := hev.dep 8 13 (by kernel_rfl)
   dsimp only at e13
   obtain ⟨v13, hv13⟩ : ∃ v, ev (.tmp 13) = v := ⟨_, rfl⟩
   rw [hv13] at e13
   exact leavesR_value (u := v13) (by go_simp) e13
  ·exact absurd (show i + 10 < 10 from (Array.getElem?_eq_some_iff.1 hi).1) (by omega)
 have ⟨hS1, hS2, hS3, hSB⟩ := hSE
 have q0 : gR 5 = (.pointer (some ⟨b, 0, none⟩)) := hq 0 5 (by decide) (by kernel_rfl)
 have q1 : gR 6 = (.pointer (some ⟨b, 0, none⟩)) := hq 1 6 (by decide) (by kernel_rfl)
 have q2 : gR 7 = (.pointer (some ⟨b, 3, none⟩)) := hq 2 7 (by decide) (by kernel_rfl)
 have q3 : gR 8 = (.slice pr n cr) := hq 3 8 (by decide) (by kernel_rfl)
 have q4 : gR 9 = (.pointer (some ⟨b, 0, none⟩)) := hq 4 9 (by decide) (by kernel_rfl)
 have q5 : gR 10 = (.pointer (some ⟨b, 0, none⟩)) := hq 5 10 (by decide) (by kernel_rfl)
 have q6 : gR 11 = (.pointer (some ⟨b, 6, none⟩)) := hq 6 11 (by decide) (by kernel_rfl)
 have q7 : gR 12 = (.slice py n cd) := hq 7 12 (by decide) (by kernel_rfl)
 have q8 : (fun v w1 => Ws w1 v n) (gR 13) wE := hq 8 13 (by decide) (by kernel_rfl)
 dsimp only at q8
 obtain ⟨v13, hv13⟩ : ∃ v, gR 13 = v := ⟨_, rfl⟩
 rw [hv13] at q8
 have q9 : (fun v w1 => Ws w1 v n) (gR 3) wE := hq 9 3 (by decide) (by kernel_rfl)
 dsimp only at q9
 obtain ⟨v3, hv3⟩ : ∃ v, gR 3 = v := ⟨_, rfl⟩
 rw [hv3] at q9
 refine ⟨fun _ => ?_, fun o ho => by simp at ho⟩
 simp only [putL, List.map_cons, List.map_nil, q0, q1, q2, q3, q4, q5, q6, q7, hv13, hv3, Act.put, pu1, pu2, pu3]
 clear hq hSE q0 q1 q2 q3 q4 q5 q6 q7
 have hT := q9
 have hUE := hS3
 clear hS1 hS2 hS3 hSB huE hc3 hc6 q8 HT hv13 hv3
 obtain ⟨pt, ct, rfl⟩ := hT.slice
 have hBE := hB.up hUE
 have hc6 : wE.cell? ⟨b, 6, none⟩ = some (.slice py n cd) := hBE.cell 6 rfl
 have HDo := hid (fun w' (hu : Up wE w') => dot_any (hD.up (hUE.trans hu)) (hT.up hu) hn)
 go_upto_region 3 with (first
  | (go_at_call 69; (with_reducible refine (HDo.out _ (Up.refl _)).mono ?_); rintro r w2 ⟨hu2, _, rfl, q, hq, rfl⟩)
  | ((with_reducible apply st_rowP infoW); exact rfl; exact rfl; exact row_newz _ rfl
     refine wpL_folded (fun wd => Up w2 wd /\ Row wd w2.heap.size 107 16 (limb (enc q))) ⟨gUp, gRow⟩ ?_
     rintro w3 ⟨hu3, hLn⟩))
 obtain ⟨bq, hbq⟩ : ∃ y, w2.heap.size = y := ⟨_, rfl⟩
 rw [hbq] at hLn ⊢
 have hU3 := hUE.trans (hu2.trans hu3)
 have HSg := hid (fun w => sign_z hq w)
 have HQ := hid hq
 have hT3 := hT.up (hu2.trans hu3)
 clear hbq hc6 HDo hu2 hu3 hBE hT hUE hq
 unfold wideV at HSg
 obtain ⟨sq, hsq⟩ : ∃ y, (sgn q == 0) = y := ⟨_, rfl⟩
 cases sq
 ·go_upto_region 5 with (first
   | ((with_reducible apply ld_rowP undW infoW); exact rfl; exact rfl; exact hLn)
   | (go_at_call 70; (with_reducible refine (HSg.out _).mono ?_); rintro r w4 ⟨rfl, hu4⟩))
  have hU4 := hU3.trans hu4
  have hT4 := hT3.up hu4
  have hL4 := hLn.up hu4
  have hB4 := hB.up hU4
  have hc4 : w4.cell? ⟨b, 4, none⟩ = some (.slice px n cx) := hB4.cell 4 rfl
  have hc5 : w4.cell? ⟨b, 5, none⟩ = some (.slice pl n cl) := hB4.cell 5 rfl
  have hc6 : w4.cell? ⟨b, 6, none⟩ = some (.slice py n cd) := hB4.cell 6 rfl
  clear hLn hT3 hU3 hu4 hB4 hsq HSg
  refine opU (S := (fun wq => wq.cell? ⟨b, 4, none⟩ = some (.slice px n cx) /\ wq.cell? ⟨b, 6, none⟩ = some (.slice py n cd) /\ wq.cell? ⟨b, 5, none⟩ = some (.slice pl n cl) /\ Row wq bq 107 16 (limb (enc q)) /\ Up w4 wq /\ Below w.heap.size w wq)) (req := (fun j => j != 22)) (fun _ _ h hu => ⟨hu.cell (h.1), hu.cell (h.2.1), hu.cell (h.2.2.1), (h.2.2.2.1).up hu, (h.2.2.2.2.1).trans hu, below_up (h.2.2.2.2.2) hu⟩) ⟨(by first | assumption | (apply Blk.cell; exact gBlk; exact rfl)), (by first | assumption | (apply Blk.cell; exact gBlk; exact rfl)), (by first | assumption | (apply Blk.cell; exact gBlk; exact rfl)), gRow, (by first | exact Up.refl _ | assumption), gUp⟩ (fun wS hSS hSu => ?_)
  have ⟨hS1, hS2, hS3, hS4, hS5, hSB⟩ := hSS
  refine tkP 0 (some 23) hSu ?_
  refine tkP 1 (some 24) hSu ?_
  refine tkP 2 (some 25) hSu ?_
  refine tkP 3 (some 26) hSu ?_
  refine tkT 4 (some 27) rfl hSu hSS ?_ (hy := fun w' hSw => by ((try dsimp only at hSw); (try obtain ⟨_, _, _, _, _, _⟩ := hSw); go_simp; (try exact rfl)))
  refine tkP 5 (some 28) hSu ?_
  refine tkP 6 (some 29) hSu ?_
  refine tkP 7 (some 30) hSu ?_
  refine tkT 8 (some 31) rfl hSu hSS ?_ (hy := fun w' hSw => by ((try dsimp only at hSw); (try obtain ⟨_, _, _, _, _, _⟩ := hSw); go_simp; (try exact rfl)))
  refine tkP 9 (some 32) hSu ?_
  refine tkP 10 (some 33) hSu ?_
  refine tkP 11 (some 34) hSu ?_
  refine tkT 12 (some 35) rfl hSu hSS ?_ (hy := fun w' hSw => by ((try dsimp only at hSw); (try obtain ⟨_, _, _, _, _, _⟩ := hSw); go_simp; (try exact rfl)))
  refine tkP 13 (some 36) hSu ?_
  refine tkP 14 (some 37) hSu ?_
  refine tkP 15 (some 38) hSu ?_
  refine tkT 16 (some 39) rfl hSu hSS ?_ (hy := fun w' hSw => by ((try dsimp only at hSw); (try obtain ⟨_, _, _, _, _, _⟩ := hSw); go_simp; (try exact rfl)))
  refine tkT 18 (some 41) rfl hSu hSS ?_ (hy := fun w' hSw => run_ld undW infoW _ rfl _ rfl hSw.2.2.2.1)
  refine wpAnyU_callE (i := 17) (d := (some 40)) rfl rfl (by kernel_rfl) (by rfl) hSu.out (fun w' => by go_simp) (fun w' hw' => dot_any (hD.up (hU4.trans (hS5.trans hw'))) (hL.up (hU4.trans (hS5.trans hw'))) hn) fun vD wD hwD hRD => ?_
  try simp only [Act.put, pu1, pu2, pu3]
  obtain ⟨zD, hzD, rfl⟩ := hRD
  refine wpAnyU_callE (i := 19) (d := (some 42)) rfl rfl (by kernel_rfl) (by rfl) hSu.out (fun w' => by go_simp) (fun w' hw' => moved_v (hX.up (hU4.trans (hS5.trans (hwD.trans hw')))) (hD.up (hU4.trans (hS5.trans (hwD.trans hw')))) ⟨zD, hzD, rfl⟩ ⟨q, HQ.out, rfl⟩ hn) fun vM wM hwM hRM => ?_
  try simp only [Act.put, pu1, pu2, pu3]
  obtain ⟨pM, cM, rfl⟩ := hRM.slice
  refine tkP 20 (some 43) hSu ?_
  refine tkP 21 (some 44) hSu ?_
  refine wpAnyU_one (i := 22) rfl (by kernel_rfl) (by rfl) fun w9 hw9 => ?_
  have hx9 := hS5.trans (hwD.trans (hwM.trans hw9))
  have hU9 := hU4.trans hx9
  have hB9 := hB.up hU9
  have hcW := hB9.cell 4 rfl
  have hfW := hB9.frozen 4
  go_simp
  clear hcW hfW
  refine wpAnyU_done (by kernel_rfl) (fun wF huE => ?_) _
  have gC := grown_cell (w := w9) (b := b) (i := 4) (.slice pM n cM)
  have gF := grown_trans (grown_up hU9) (grown_trans gC (grown_up huE))
  have hBF : Blk wF b 126 #[.int .i64 (n : Int), A, vv, .slice pr n cr, .slice pM n cM, .slice pl n cl, .slice py n cd] := (hB9.set 4 (.slice pM n cM)).up huE
  have hRF := hR.kept hB (by decide) (by decide) gF
  have hDF := hD.kept hB (by decide) gF
  have hXF := ((hRM.up hw9).kept hB9 (by decide) gC).up huE
  have hTF := ((hT4.up hx9).kept hB9 (by decide) gC).up huE
  have hLF := (Row.other (hL4.up hx9) ⟨b, 4, none⟩ (.slice pM n cM) (blk_ne (hL4.up hx9) hB9 (by decide))).up huE
  have hLlF := hL.kept hB (by decide) gF
  clear gC hB9 hU9 hx9 hw9 hRM hwM hzD hwD hS1 hS2 hS3 hS4 hS5 hSB hSS hSu huE hc4 hc5 hc6 hT4 hL4 hU4 hB hR hX hL hD
  obtain ⟨w5, hw5⟩ : ∃ x, wF = x := ⟨_, rfl⟩
  rw [hw5] at gF hBF hRF hDF hXF hTF hLF hLlF ⊢
  clear hw5
  have HRe := hid (fun w' (hu : Up w5 w') => rest_any (hBF.up hu) (Vw.up hu (HV.out _ gF)) HVL.out HIV.out (hRF.up hu) (hXF.up hu) hn)
  go_wp2_with fail
  go_upto_region 7 with (first
   | (go_at_call 67; (with_reducible refine (HRe.out _ (Up.refl _)).mono ?_); rintro r w7 ⟨hu7, _, rfl, b7, hb7, hO7⟩; obtain ⟨p7, c7, rfl⟩ := hO7.slice; have hcW := (hBF.up hu7).cell 5 rfl; have hfW := (hBF.up hu7).frozen 5))
  have hB7 := hBF.up hu7
  have gC := grown_cell (w := w7) (b := b) (i := 5) (.slice p7 n c7)
  have gF := grown_trans gF (grown_trans (grown_up hu7) gC)
  have hB8 : Blk (w7.setCell ⟨b, 5, none⟩ (.slice p7 n c7)) b 126 #[.int .i64 (n : Int), A, vv, .slice pr n cr, .slice pM n cM, .slice p7 n c7, .slice py n cd] := hB7.set 5 _
  have hR8 := (hRF.up hu7).kept hB7 (by decide) (by decide) gC
  have hD8 := (hDF.up hu7).kept hB7 (by decide) gC
  have hX8 := (hXF.up hu7).kept hB7 (by decide) gC
  have hT8 := (hTF.up hu7).kept hB7 (by decide) gC
  have hO8 := hO7.ws.kept hB7 (by decide) gC
  have hL8 := Row.other (hLF.up hu7) ⟨b, 5, none⟩ (.slice p7 n c7) (blk_ne (hLF.up hu7) hB7 (by decide))
  clear hcW hfW hB7 gC hO7 hLF hTF hXF hDF hRF hBF HRe hLlF
  obtain ⟨w8, hw8⟩ : ∃ x, w7.setCell ⟨b, 5, none⟩ (.slice p7 n c7) = x := ⟨_, rfl⟩
  rw [hw8] at hB8 hR8 hD8 hX8 hT8 hO8 hL8 gF ⊢
  clear hw8
  have hc5 : w8.cell? ⟨b, 5, none⟩ = some (.slice p7 n c7) := hB8.cell 5 rfl
  have hc6 : w8.cell? ⟨b, 6, none⟩ = some (.slice py n cd) := hB8.cell 6 rfl
  refine opU (S := (fun wq => wq.cell? ⟨b, 5, none⟩ = some (.slice p7 n c7) /\ wq.cell? ⟨b, 6, none⟩ = some (.slice py n cd) /\ Row wq bq 107 16 (limb (enc q)) /\ Up w8 wq)) (req := (fun j => j != 20)) (fun _ _ h hu => ⟨hu.cell (h.1), hu.cell (h.2.1), (h.2.2.1).up hu, (h.2.2.2).trans hu⟩) ⟨(by first | assumption | (apply Blk.cell; exact gBlk; exact rfl)), (by first | assumption | (apply Blk.cell; exact gBlk; exact rfl)), gRow, (by first | exact Up.refl _ | assumption)⟩ (fun wS hSS hSu => ?_)
  have ⟨hS1, hS2, hS3, hSB⟩ := hSS
  refine tkP 0 (some 50) hSu ?_
  refine tkP 1 (some 51) hSu ?_
  refine tkP 2 (some 52) hSu ?_
  refine tkP 3 (some 53) hSu ?_
  refine tkT 4 (some 54) rfl hSu hSS ?_ (hy := fun w' hSw => by ((try dsimp only at hSw); (try obtain ⟨_, _, _, _⟩ := hSw); go_simp; (try exact rfl)))
  refine tkP 5 (some 55) hSu ?_
  refine tkP 6 (some 56) hSu ?_
  refine tkP 7 (some 57) hSu ?_
  refine tkT 8 (some 58) rfl hSu hSS ?_ (hy := fun w' hSw => by ((try dsimp only at hSw); (try obtain ⟨_, _, _, _⟩ := hSw); go_simp; (try exact rfl)))
  refine tkP 9 (some 59) hSu ?_
  refine tkP 10 (some 60) hSu ?_
  refine tkP 11 (some 61) hSu ?_
  refine tkT 12 (some 62) rfl hSu hSS ?_ (hy := fun w' hSw => by ((try dsimp only at hSw); (try obtain ⟨_, _, _, _⟩ := hSw); go_simp; (try exact rfl)))
  refine tkP 13 (some 63) hSu ?_
  refine tkT 16 (some 66) rfl hSu hSS ?_ (hy := fun w' hSw => run_ld undW infoW _ rfl _ rfl hSw.2.2.1)
  refine wpAnyU_callE (i := 14) (d := (some 64)) rfl rfl (by kernel_rfl) (by rfl) hSu.out (fun w' => by go_simp) (fun w' hw' => dot_any (hO8.up (hSB.trans hw')) (hT8.up (hSB.trans hw')) hn) fun vD wD hwD hRD => ?_
  try simp only [Act.put, pu1, pu2, pu3]
  obtain ⟨zD, hzD, rfl⟩ := hRD
  refine wpAnyU_callE (i := 15) (d := (some 65)) rfl rfl (by kernel_rfl) (by rfl) hSu.out (fun w' => by go_simp) (fun w' hw' => minus_v ⟨zD, hzD, rfl⟩) fun vN wN hwN hRN => ?_
  try simp only [Act.put, pu1, pu2, pu3]
  obtain ⟨zN, hzN, rfl⟩ := hRN
  refine wpAnyU_callE (i := 17) (d := (some 67)) rfl rfl (by kernel_rfl) (by rfl) hSu.out (fun w' => by go_simp) (fun w' hw' => moved_v (hO8.up (hSB.trans (hwD.trans (hwN.trans hw')))) (hD8.up (hSB.trans (hwD.trans (hwN.trans hw')))) ⟨zN, hzN, rfl⟩ ⟨q, HQ.out, rfl⟩ hn) fun vM wM hwM hRM => ?_
  try simp only [Act.put, pu1, pu2, pu3]
  obtain ⟨pM2, cM2, rfl⟩ := hRM.slice
  refine tkP 18 (some 68) hSu ?_
  refine tkP 19 (some 69) hSu ?_
  refine wpAnyU_one (i := 20) rfl (by kernel_rfl) (by rfl) fun w9 hw9 => ?_
  have hx9 := hSB.trans (hwD.trans (hwN.trans (hwM.trans hw9)))
  have hB9 := hB8.up hx9
  have hcW := hB9.cell 6 rfl
  have hfW := hB9.frozen 6
  go_simp
  clear hcW hfW
  refine wpAnyU_done (by kernel_rfl) (fun wF huE => ?_) _
  have gC := grown_cell (w := w9) (b := b) (i := 6) (.slice pM2 n cM2)
  have gF := grown_trans gF (grown_trans (grown_up hx9) (grown_trans gC (grown_up huE)))
  have gX := grown_trans (grown_up (b := b) hx9) (grown_trans gC (grown_up huE))
  have hWF : WayOk wF b n A vv := ⟨_, _, _, _, (hB9.set 6 (.slice pM2 n cM2)).up huE, hR8.kept hB8 (by decide) (by decide) gX, hX8.kept hB8 (by decide) gX, hO8.kept hB8 (by decide) gX, ((hRM.up hw9).kept hB9 (by decide) gC).up huE⟩
  clear gC hx9 hw9 hRM hwM hzD hzN hwD hwN hS1 hS2 hS3 hSB hSS hSu huE hB9 hR8 hX8 hO8 hD8 hB8 hT8 hL8 hc5 hc6 gX
  go_wp2_with fail
  go_ret
  exact ⟨true, rfl, gF, hWF⟩
 ·go_wp2_with (first
   | ((with_reducible apply ld_rowP undW infoW); exact rfl; exact rfl; exact hLn)
   | (go_at_call 70; (with_reducible refine (HSg.out _).mono ?_); rintro r w4 ⟨rfl, hu4⟩))
  go_ret
  exact ⟨false, rfl, grown_up (hU3.trans hu4), WayOk.up (hU3.trans hu4) ⟨_, _, _, _, hB, hR, hX, hL, hD⟩⟩
theorem in64_more {l : List Int} {y : Int} (h : In64 l) (hy : I64 y) : In64 (l ++ [y]) := fun i hi => by
 rw [List.length_append, List.length_singleton] at hi
 by_cases e : i < l.length
 ·have h1 := h i e
  unfold zth at *
  rw [List.getD_eq_getElem?_getD, List.getElem?_append_left e, <- List.getD_eq_getElem?_getD]
  exact h1
 ·obtain rfl : i = l.length := by omega
  unfold zth
  rw [List.getD_eq_getElem?_getD, List.getElem?_append_right (Nat.le_refl _), Nat.sub_self]
  exact hy
theorem way_m {w : World} {b m c : Nat} {N : Int} {p : Option Addr} {v r x l d : Value} (h : Blk w b 126 #[.int .i64 N, .slice p m c, v, r, x, l, d]) : w.rangeAt b 0 [.int .i64 N, .slice p m c] := fun j u hu => by
 rcases j with _ | _ | j
 ·simp at hu; subst hu; exact h.cell 0 rfl
 ·simp at hu; subst hu; exact h.cell 1 rfl
 ·simp at hu
theorem rsC_two {n : Nat} {l X V : List Int} (hR : rt n l = true) (hX : X.length = n) (hV : V.length = n) : rsC n l X V = 0 \/ rsC n l X V = 21 := by
 have hf : ftC n l [X, V] = 0 \/ ftC n l [X, V] = 21 := by
  unfold ftC
  rw [if_pos ⟨hR, fun i hi => by
   rcases i with _ | _ | i
   ·exact congrArg Int.ofNat hX
   ·exact congrArg Int.ofNat hV
   ·simp at hi; omega⟩]
  split
  ·exact .inl rfl
  ·exact .inr rfl
 unfold rsC
 split
 ·split
  ·exact .inl rfl
  ·exact .inr rfl
 ·exact hf
theorem OwnI.weak {w : World} {B B' : Nat} {v : Value} {l : List Int} (h : OwnI w B v l) (hb : B' <= B) : OwnI w B' v l := by
 obtain ⟨h0, h1 | ⟨g, cap, cur, hv, hg, hr⟩⟩ := h
 ·exact ⟨h0, .inl h1⟩
 ·exact ⟨h0, .inr ⟨g, cap, cur, hv, Nat.le_trans hb hg, hr⟩⟩
theorem OwnI.belowRow {w : World} {base g : Nat} {v : Value} {l : List Int} (h : OwnI w base v l) (hg : g < base) (D : Array Value) : OwnI (w.setRow g D) base v l := by
 obtain ⟨h0, h1 | ⟨g', cap, cur, hv, hb, hB, hr⟩⟩ := h
 ·exact ⟨h0, .inl h1⟩
 ·exact ⟨h0, .inr ⟨g', cap, cur, hv, hb, Blk.row_other hB D (by omega), hr⟩⟩
set_option maxHeartbeats 16000000 in
theorem place_any {b n : Nat} {A vv : Value} {l V : List Int} {w : World} (hw : WayOk w b n A vv) (hm : Sm w (.agg #[.int .i64 (n : Int), A]) n l) (hR : rt n l = true) (hV : Vw w vv V) (hVl : V.length = n) (hI : In64 V) :
   Calls Tryz.prog 42 #[.pointer (some ⟨b, 0, none⟩)] w fun r w' => ∃ p m c off u, r = .returned (.tuple #[.agg #[.slice p m c, .int .i64 off], u]) /\ Up w w' /\
    ((u = .nilIface /\ ∃ X, OwnI w' w.heap.size (.slice p m c) X /\ X.length = n /\ In64 X /\ rsC n l X V = 0 /\ off = rsV n l X V) \/ ∃ e, IsEr w' u e /\ e.has 21 = true) := by
 have n8 : n <= 8 := by have := (rt_spec hR).2.1; omega
 obtain ⟨rv, xv, lv, dv, hB, -, hX, -, -⟩ := hw
 have HX := hid (fun (h0 : 0 < n) => hX.open h0)
 have HM := hid (fun w' (hu : Up w w') => hm.up hu)
 have HV := hid (fun w' (hu : Up w w') => Vw.up hu hV)
 obtain ⟨px, cx, rfl⟩ := hX.slice
 obtain ⟨pv, cv, rfl, -⟩ := vw_cells hV hVl
 obtain ⟨s, e, ⟨p, cap, rfl, -, -⟩, -, -, -⟩ := hm
 injection e with e
 injection e with e
 injection e with _ e
 injection e with e
 subst e
 obtain ⟨W0, hW0⟩ : ∃ x, w.alloc (.cells #[.slice none 0 0, .int .i64 0] 53) = x := ⟨_, rfl⟩
 have hQ : Blk W0 w.heap.size 53 #[.slice none 0 0, .int .i64 0] := by rw [<- hW0]; exact Blk.new _ _ rfl
 have hU : Up w W0 := by rw [<- hW0]; exact Up.alloc _ _
 obtain ⟨b0, hb0⟩ : ∃ y, w.heap.size = y := ⟨_, rfl⟩
 rw [hb0] at hQ
 have Hb0 := hid (show w.heap.size <= b0 from by omega)
 have hB0 := hB.up hU
 have hc4 : W0.cell? ⟨b, 4, none⟩ = some (.slice px n cx) := hB0.cell 4 rfl
 clear hX hV hB
 go_enter Tryz.func42, Tryz.ntmps42
 go_wp2_with fail
 clear hW0 hc4 hb0
 go_loopg [4, 16] n (fun g tl ti wr => ∃ (k : Nat) (X : List Int), k <= n /\ n - k <= g /\ ti = .int .i64 (k : Nat) /\ OwnI wr W0.heap.size tl X /\ X.length = k /\ In64 X /\ Up W0 wr)
 case atStart => exact ⟨0, [], Nat.zero_le _, by omega, rfl, OwnI.nil _ _, rfl, fun i hi => absurd hi (Nat.not_lt_zero _), Up.refl _⟩
 case round =>
  obtain ⟨k, X, hk, hkg, rfl, hO, hXl, hXI, hu⟩ := hrel
  have HXI := hid hXI
  clear hXI
  by_cases hlt : k < n
  ·obtain ⟨gA, cA', CA, e1, hBA, hEA⟩ := HX.out (by omega)
   injection e1 with x1 x2 x3
   subst x1 x3
   obtain ⟨x, hx, hRx⟩ := hEA k hlt
   obtain ⟨o, ho, HOne⟩ := cgone_w
   obtain ⟨rn, k1, hrn, HRd⟩ := round_w hx ho
   obtain ⟨y, k2, hy, HI⟩ := i64_w hrn
   have HOne := hid HOne
   have HRd := hid HRd
   have HI := hid HI
   have HRx := hid hRx
   have HY := hid hy
   have hBAr := hBA.up (hU.trans hu)
   have e1 : IntKind.i64.wrap ((k : Int) + 1) = (k : Int) + 1 := IntWalk.i64_in _ (by omega)
   have HTk : Hid (X.length < 1000000) := hid (by omega)
   clear hEA x2 hx ho hrn hy hRx hBA HX
   unfold wideV at *
   go_wp2_with (first
    | ((with_reducible apply ldW_P (z := x)); exact rfl; exact rfl; exact HRx.out _ hBAr)
    | ((with_reducible apply st_rowP infoW); exact rfl; exact rfl; exact row_newz _ rfl
       refine wpL_folded (fun wd => Up wr wd /\ Row wd wr.heap.size 107 16 (limb (enc x))) ⟨gUp, gRow⟩ ?_
       rintro w7 ⟨hu7, hP2⟩))
   obtain ⟨b6, hb6⟩ : ∃ x, wr.heap.size = x := ⟨_, rfl⟩
   rw [hb6] at hP2 ⊢
   have hx7 := hu.trans hu7
   have hO7 := hO.up hu7
   clear hb6 hBAr hu hu7 hO
   refine opU (S := (fun wq => Row wq b6 107 16 (limb (enc x)) /\ Up w7 wq /\ Below w.heap.size w wq)) (req := (fun j => j != 7)) (fun _ _ h hu => ⟨(h.1).up hu, (h.2.1).trans hu, below_up (h.2.2) hu⟩) ⟨gRow, (by first | exact Up.refl _ | assumption), gUp⟩ (fun wS hSS hSu => ?_)
   have ⟨hS1, hS2, hSB⟩ := hSS
   refine tkT 0 (some 21) rfl hSu hSS ?_ (hy := fun w' hSw => run_ld undW infoW _ rfl _ rfl hSw.1)
   refine tkC 1 (some 22) rfl hSu hSS ?_ (hy := fun w' hSw => (HOne.out _))
   refine tkC 2 (some 23) rfl hSu hSS ?_ (hy := fun w' hSw => (HRd.out _))
   refine tkP 3 (some 20) hSu ?_
   refine tkP 4 (some 24) hSu ?_
   refine tkP 5 (some 25) hSu ?_
   refine wpAnyU_allocW (i := 6) (d := (some 7)) rfl rfl (by kernel_rfl) (by rfl) rfl hSu.out fun w2 hw2 => ?_
   try simp only [Act.put, pu1, pu2, pu3]
   refine wpAnyU_one (i := 7) rfl (by kernel_rfl) (by rfl) fun w3 hw3 => ?_
   refine wp_st_rowN infoW rfl _ _ rfl _ rfl rfl ((Row.up (row_newc _ 16 _ rfl) hw3)) ?_
   refine ⟨fun h => by simp at h, ?_⟩
   try simp only [Act.put, pu1, pu2, pu3]
   refine tkP 8 (some 8) hSu ?_
   refine wpAnyU_done (by kernel_rfl) (fun wF huE => ?_) _
   have hP3 := ((Row.up (row_newc 107 16 (fun _ => 0) (rfl : w2.heap.size = w2.heap.size)) hw3).setRow (limb (enc rn))).up huE
   have hx1 := up_var (hS2.trans hw2) hw3 huE
   clear hS1 hS2 hSB hSS hw2 hw3 huE hP2
   obtain ⟨wB, hwB⟩ : ∃ x, wF = x := ⟨_, rfl⟩
   rw [hwB] at hP3 hx1 ⊢
   clear hwB
   obtain ⟨b2, hb2⟩ : ∃ x, w2.heap.size = x := ⟨_, rfl⟩
   rw [hb2] at hP3 ⊢
   clear hb2
   have huB := hx7.trans hx1
   have hOB := hO7.up hx1
   have hQB := hQ.up huB
   have hsB := huB.size
   clear hx7 hO7 hx1
   cases k2 with
   | true =>
     go_wp2_with (first
      | ((with_reducible apply ld_rowP undW infoW); exact rfl; exact rfl; exact hP3)
      | (go_at_call 75; (with_reducible refine (HI.out _).mono ?_); rintro r w4 ⟨rfl, hu4⟩; have hs4 := hu4.size)
      | ((with_reducible apply appV); exact rfl; exact rfl; exact OwnI.up (hu4.trans (Up.alloc _ _)) hOB; exact vw_one _ _; (focus (simp; omega)); exact HTk.out; (focus (simp; done)); rintro v6 w6 hO6 hb6'))
     go_roundg (n - (k + 1))
     case measure => omega
     case rel => exact ⟨k + 1, X ++ [y], hlt, Nat.le_refl _, rfl, hO6, by simp [hXl], in64_more HXI.out HY.out, Below.trans (huB.trans (hu4.trans (Up.alloc _ _))) hb6'⟩
   | false =>
     go_wp2_with (first
      | ((with_reducible apply ld_rowP undW infoW); exact rfl; exact rfl; exact hP3)
      | (go_at_call 75; (with_reducible refine (HI.out _).mono ?_); rintro r w4 ⟨rfl, hu4⟩; have hQ4 := hQB.up hu4)
      | ((with_reducible apply stQ_P); exact rfl; exact rfl; exact hQ4; exact rfl; exact rfl; exact two3 _ _ _ _ _))
     exact bodyPost_ret (resQ2 rfl _ _ rfl (Blk.setRow hQ4 _) rfl) rfl ⟨none, 0, 0, 0, .iface 59 (.int .i64 21), rfl, below_setRow (hU.trans (huB.trans hu4)) Hb0.out _, .inr ⟨.num 21, rfl, rfl⟩⟩
  ·have hkn : k = n := by omega
   subst hkn
   have hUr := hU.trans hu
   have hBr := hB0.up hu
   have hQr := hQ.up hu
   have hc2 : wr.cell? ⟨b, 2, none⟩ = some (.slice pv k cv) := hBr.cell 2 rfl
   have HPl := hid (fun w' (hu' : Up wr w') => placed_any (HM.out w' (hUr.trans hu')) (hO.up hu').vw (HV.out w' (hUr.trans hu')) HXI.out hI (by omega) (by omega))
   obtain ⟨pX, mX, cX, rfl⟩ := OwnI.slice hO
   have HR2 := hid (rsC_two hR hXl hVl)
   have HXl := hid hXl
   have HOr := hid hO
   have HZ : Hid (∀ y, plX k l X V y = if rsC k l X V = 0 then y else .slice none 0 0) := hid (fun y => rfl)
   have HbQ := hid hQ.lt
   have HUs := hid hU.size
   clear hR hXl hVl hI hB0 hQ hU hO HX
   obtain ⟨pP, mP, cP, hP⟩ : ∃ p m c, plX k l X V (.slice pX mX cX) = .slice p m c := by
    rw [HZ.out]
    split
    ·exact ⟨_, _, _, rfl⟩
    ·exact ⟨_, _, _, rfl⟩
   have HP := hid hP
   rw [hP] at HPl
   clear hP
   go_wp2_with fail
   refine opU (S := (fun wq => Blk wq b 126 #[.int .i64 (k : Int), .slice p l.length cap, .slice pv k cv, rv, .slice px k cx, lv, dv] /\ wq.cell? ⟨b, 2, none⟩ = some (.slice pv k cv) /\ Up wr wq)) (req := (fun j => j != 12)) (fun _ _ h hu => ⟨(h.1).up hu, hu.cell (h.2.1), (h.2.2).trans hu⟩) ⟨gBlk, (by first | assumption | (apply Blk.cell; exact gBlk; exact rfl)), (by first | exact Up.refl _ | assumption)⟩ (fun wS hSS hSu => ?_)
   have ⟨hS1, hS2, hSB⟩ := hSS
   refine tkP 0 (some 40) hSu ?_
   refine tkP 1 (some 41) hSu ?_
   refine tkP 2 (some 42) hSu ?_
   refine tkT 3 (some 43) rfl hSu hSS ?_ (hy := fun w' hSw => run_ldMr rfl rfl (way_m hSw.1))
   refine tkP 4 (some 44) hSu ?_
   refine tkP 5 (some 45) hSu ?_
   refine tkP 6 (some 46) hSu ?_
   refine tkP 7 (some 47) hSu ?_
   refine tkT 8 (some 48) rfl hSu hSS ?_ (hy := fun w' hSw => by ((try dsimp only at hSw); (try obtain ⟨_, _, _⟩ := hSw); go_simp; (try exact rfl)))
   refine wpAnyU_callE (i := 9) (d := (some 49)) rfl rfl (by kernel_rfl) (by rfl) hSu.out (fun w' => by go_simp) (fun w' hw' => HPl.out _ (hSB.trans hw')) fun vP wP hwP hRP => ?_
   try simp only [Act.put, pu1, pu2, pu3]
   obtain ⟨u9, rfl, he⟩ := hRP
   refine tkP 10 (some 50) hSu ?_
   refine tkP 11 (some 51) hSu ?_
   refine wpAnyU_one (i := 12) rfl (by kernel_rfl) (by rfl) fun w9 hw9 => ?_
   have hx9 := hSB.trans (hwP.trans hw9)
   have hQ9 := hQr.up hx9
   have he9 := (he.up hw9).setRowQ (D := #[.slice pP mP cP, .int .i64 (rsV k l X V)]) hQ9 (by decide)
   have hO9 := (HOr.out.up hx9).belowRow HbQ.out #[.slice pP mP cP, .int .i64 (rsV k l X V)]
   have hU9 := below_setRow (hUr.trans hx9) Hb0.out #[.slice pP mP cP, .int .i64 (rsV k l X V)]
   refine wp_stQ rfl rfl rfl rfl hQ9 rfl rfl (two3 _ _ _ _ _) ?_
   refine ⟨fun h => by simp at h, ?_⟩
   refine tkP 13 (some 3) hSu ?_
   refine wpAnyU_done (by kernel_rfl) (fun wF huE => ?_) _
   have hQF := (hQ9.setRow #[.slice pP mP cP, .int .i64 (rsV k l X V)]).up huE
   have heF := he9.up huE
   have hOF := hO9.up huE
   have hUF := Up.trans hU9 huE
   clear hU9 hO9 he9 hQ9 hx9 hw9 he hwP hS1 hS2 hSB hSS hSu huE
   obtain ⟨wK, hwK⟩ : ∃ x, wF = x := ⟨_, rfl⟩
   rw [hwK] at hQF heF hOF hUF ⊢
   clear hwK
   obtain ⟨RV, hRV⟩ : ∃ y, rsV k l X V = y := ⟨_, rfl⟩
   have HRV := hid hRV
   rw [hRV] at hQF ⊢
   clear hRV
   have HE := hid heF
   clear heF
   go_wp2_with fail
   refine bodyPost_ret (resQ2 rfl _ _ rfl hQF rfl) rfl ⟨pP, mP, cP, RV, u9, rfl, hUF, ?_⟩
   rcases HE.out with ⟨h0, h1⟩ | ⟨h0, t, y, rfl, hE⟩
   ·have hP := HP.out
    rw [HZ.out, if_pos h0] at hP
    exact .inl ⟨h1, X, hP ▸ hOF.weak HUs.out, HXl.out, HXI.out, h0, HRV.out.symm⟩
   ·refine .inr ⟨_, hE, ?_⟩
    rcases HR2.out with h | h
    ·exact absurd h h0
    ·rw [h]; rfl
def cgC (N : Int) (l V S : List Int) : Int := if neC N l V = 0 then rsC N l S V else neC N l V
theorem rsC_len {N : Int} {l x v : List Int} (h : rsC N l x v = 0) : ∃ n : Nat, N = (n : Int) /\ rt n l = true /\ x.length = n /\ v.length = n := by
 unfold rsC at h
 by_cases h0 : ftC N l [x, v] = 0
 ·exact ftC_two h0
 ·rw [if_neg h0] at h; exact absurd h h0
theorem OwnI.kept {w w' : World} {b B : Nat} {t : TypeId} {D : Array Value} (hb : Blk w b t D) (ht : t ≠ 2) (hg : w.grownBy w' (some b)) {v : Value} {l : List Int} (h : OwnI w B v l) : OwnI w' B v l := by
 refine World.ownsRow.kept h hg ?_
 obtain ⟨_, ⟨rfl, _⟩ | ⟨g, cap, cur, rfl, _, hB, _⟩⟩ := h
 ·exact .inl rfl
 ·refine .inr fun e => ?_
  simp [Value.ownBlock] at e
  subst e
  unfold Blk at hb
  rw [hb] at hB
  simp at hB
  exact ht hB.2
theorem grown_setRow {w : World} {b : Nat} (D : Array Value) : w.grownBy (w.setRow b D) (some b) := by
 have h : ∀ B, B <= b -> Below B w (w.setRow b D) := fun B hB => below_setRow (Below.refl _ _) hB D
 have h0 := h 0 (Nat.zero_le _)
 refine ⟨h0.os, h0.tape, h0.output, h0.size, fun k hk hne => ?_⟩
 have hkb : k ≠ b := fun e => hne (by rw [e])
 obtain ⟨o, ho⟩ : ∃ o, w.heap[k]? = some o := ⟨_, Array.getElem?_eq_getElem hk⟩
 simp only [World.setRow]
 rw [Array.getElem?_modify, if_neg (Ne.symm hkb)]
theorem Blk.kept {w w' : World} {b g : Nat} {t u : TypeId} {C D : Array Value} (_ : Blk w b t D) (hg : w.grownBy w' (some b)) (h : Blk w g u C) (hne : g ≠ b) : Blk w' g u C := by
 have hl := h.lt
 unfold Blk at *
 rw [hg.block g hl fun e => by injection e with e; exact hne e]
 exact h
theorem WayOk.kept {w w' : World} {g b n : Nat} {t : TypeId} {D : Array Value} {A vv : Value} (hb : Blk w g t D) (h1 : t ≠ 107) (h2 : t ≠ 124) (h3 : 126 ≠ t) (hg : w.grownBy w' (some g)) (h : WayOk w b n A vv) : WayOk w' b n A vv := by
 obtain ⟨rv, xv, lv, dv, hB, hR, hX, hL, hD⟩ := h
 exact ⟨rv, xv, lv, dv, Blk.kept hb hg hB (blk_ne hB hb h3), hR.kept hb h1 h2 hg, hX.kept hb h1 hg, hL.kept hb h1 hg, hD.kept hb h1 hg⟩
def WalkPost (w : World) (N : Int) (l V S : List Int) (most enough : Int) (r : Ending) (w' : World) : Prop :=
 (cgC N l V S ≠ 0 /\ ∃ u, r = .returned (.tuple #[.agg #[.slice none 0 0, .int .i64 0], .int .i64 0, u]) /\ Up w w' /\ ErrsC w' u (cgC N l V S)) \/
 (cgC N l V S = 0 /\ ∃ p m c X k, r = .returned (.tuple #[.agg #[.slice p m c, .int .i64 (rsV N l X V)], .int .i64 k, .nilIface]) /\ Up w w' /\ Vw w' (.slice p m c) X /\ X.length = N.toNat /\ In64 X /\
  rsC N l X V = 0 /\ rsV N l X V <= rsV N l S V /\ 0 <= k /\ k <= min (max most 0) 32 /\ (rsV N l S V <= enough -> k = 0 /\ X = S))
set_option maxHeartbeats 32000000 in
theorem walk_any {mv vv sv : Value} {N most enough : Int} {l V S : List Int} {w : World} (hm : Sm w mv N l) (hv : Vw w vv V) (hs : Vw w sv S) (hIv : In64 V) (hIs : In64 S) (hlv : V.length <= 1000) (hls : S.length <= 1000) :
   Calls Tryz.prog 18 #[mv, vv, sv, .int .i64 most, .int .i64 enough] w (WalkPost w N l V S most enough) := by
 have HM := hid (fun w' (hu : Up w w') => hm.up hu)
 have HV := hid (fun w' (hu : Up w w') => Vw.up hu hv)
 have HS := hid (fun w' (hu : Up w w') => Vw.up hu hs)
 have HNe := hid (fun w' (hu : Up w w') => near_sol (hm.up hu) (Vw.up hu hv) hIv hlv)
 have HPl := hid (fun w' (hu : Up w w') => placed_any (hm.up hu) (Vw.up hu hs) (Vw.up hu hv) hIs hIv hls hlv)
 have HBg := hid (fun (n : Nat) (hN : N = (n : Int)) (hR : rt n l = true) (hsl : S.length = n) (hvl : V.length = n) w' (hu : Up w w') => begin_any (hN ▸ hm.up hu) hR (Vw.up hu hs) (Vw.up hu hv) hsl hvl hIs hIv)
 have HIV := hid hIv
 have HIS := hid hIs
 obtain ⟨pv, cv, rfl, -, -⟩ := id hv
 obtain ⟨ps, cs, rfl, -, -⟩ := id hs
 obtain ⟨s, rfl, ⟨p, cap, rfl, -, -⟩, -, -, -⟩ := hm
 obtain ⟨W0, hW0⟩ : ∃ W0, (w.alloc (.cells #[.int .i64 N, .slice p l.length cap] 24)).alloc (.cells #[.slice none 0 0, .int .i64 0] 53) = W0 := ⟨_, rfl⟩
 have hB : Blk W0 w.heap.size 24 #[.int .i64 N, .slice p l.length cap] := by rw [<- hW0]; exact (Blk.new _ _ rfl).old _
 have hQ : Blk W0 (w.heap.size + 1) 53 #[.slice none 0 0, .int .i64 0] := by rw [<- hW0]; exact Blk.new _ _ (by simp)
 have hU : Up w W0 := by rw [<- hW0]; exact (Up.alloc _ _).trans (Up.alloc _ _)
 clear hv hs hIv hIs hlv
 unfold NearPost at HNe
 unfold WalkPost
 obtain ⟨C, hC⟩ : ∃ C, cgC N l V S = C := ⟨_, rfl⟩
 have HC := hid hC
 rw [hC]
 clear hC
 go_enter Tryz.func18, Tryz.ntmps18
 go_upto_region 2 with (first
  | ((with_reducible apply ldM_P); exact rfl; exact rfl; exact hB; exact rfl)
  | (go_at_call 28; (with_reducible refine (HNe.out _ hU).mono ?_); rintro r w1 ⟨z1, u1, rfl, hu1, -, -, h1⟩; have hU1 := hU.trans hu1; have hB1 := hB.up hu1; have hQ1 := hQ.up hu1))
 obtain ⟨bR, hbR⟩ : ∃ y, w.heap.size + 1 = y := ⟨_, rfl⟩
 rw [hbR] at hQ1
 obtain ⟨b0, hb0⟩ : ∃ y, w.heap.size = y := ⟨_, rfl⟩
 rw [hb0] at hB1
 have HbR := hid (show w.heap.size <= bR from by omega)
 try rw [hbR]
 try rw [hb0]
 clear hW0 hB hQ hU hu1 HNe
 rcases h1 with ⟨h0, rfl⟩ | ⟨h0, t, y, rfl, hE⟩
 ·have HCr : Hid (C = rsC N l S V) := hid (by rw [<- HC.out]; exact if_pos h0)
  have H0 := hid h0
  clear h0
  go_upto_region 5 with (first
   | ((with_reducible apply ldM_P); exact rfl; exact rfl; exact hB1; exact rfl)
   | (go_at_call 39; (with_reducible refine (HPl.out _ hU1).mono ?_); rintro r w2 ⟨hu2, _, rfl, u2, rfl, h2⟩
      have HZ : Hid (∀ y, plX N l S V y = if rsC N l S V = 0 then y else .slice none 0 0) := hid (fun y => rfl)
      obtain ⟨pP, mP, cP, hP⟩ : ∃ p m c, plX N l S V (.slice ps S.length cs) = .slice p m c := by
       rw [HZ.out]
       split
       ·exact ⟨_, _, _, rfl⟩
       ·exact ⟨_, _, _, rfl⟩
      rw [hP])
   | ((with_reducible apply stQ_P); exact rfl; exact rfl; exact Blk.new _ _ rfl; exact rfl; exact rfl; exact two3 _ _ _ _ _
      refine wpL_folded (fun wd => Up w2 wd /\ Blk wd w2.heap.size 53 #[.slice pP mP cP, .int .i64 (rsV N l S V)] /\ ErrsP solveB wd u2 (rsC N l S V)) ⟨gUp, gBlk, (h2.up (Up.alloc _ _)).setRowQ (Blk.new _ _ rfl) (by decide)⟩ ?_
      rintro w3 ⟨hu3, hb3, h3⟩))
  have hU3 := hU1.trans (hu2.trans hu3)
  have hB3 := hB1.up (hu2.trans hu3)
  have hQ3 := hQ1.up (hu2.trans hu3)
  obtain ⟨bB, hbB⟩ : ∃ y, w2.heap.size = y := ⟨_, rfl⟩
  rw [hbB] at hb3 ⊢
  have HbB := hid (show w.heap.size <= bB from by have := (hU1.trans hu2).size; omega)
  have HRB := hid (show bR ≠ bB from by have := (hQ1.up hu2).lt; omega)
  have HP := hid hP
  clear hbB hu2 hu3 h2 hP hB1 hQ1 hU1 HPl
  rcases h3 with ⟨h0, rfl⟩ | ⟨h0, t, y, rfl, hE⟩
  ·obtain ⟨n, rfl, hR, hsl, hvl⟩ := rsC_len h0
   have hP := HP.out
   rw [HZ.out, if_pos h0] at hP
   injection hP with x1 x2 x3
   subst x1 x2 x3
   have HC0 : Hid (C = 0) := hid (HCr.out.trans h0)
   have HR0 := hid h0
   have HBn := hid (HBg.out n rfl hR hsl hvl)
   have n8 : n <= 8 := by have := (rt_spec hR).2.1; omega
   have HR := hid hR
   have HSl := hid hsl
   have HVl := hid hvl
   have hS3 := HS.out _ hU3
   rw [hsl] at hS3 HBn hb3 ⊢
   rw [hvl] at HBn HV ⊢
   have hls' : Hid (S.length < 1000000) := hid (by omega)
   clear HZ HP h0 HBg hR hls HCr
   go_upto_region 9 with (first
    | ((with_reducible apply appV (l := []) (m := S)); exact rfl; exact rfl; exact OwnI.nil _ w3.heap.size; exact hS3; exact Nat.le_refl _; (focus (simp; done)); exact hls'.out; rintro v4 w4 hO4 hu4; rw [List.nil_append] at hO4; obtain ⟨p4, n4, c4, rfl⟩ := OwnI.slice hO4; have hcW := (hb3.up hu4).cell 0 rfl; have hfW := (hb3.up hu4).frozen 0))
   have hB4 := hb3.up hu4
   have hB5p : Blk (w4.setCell ⟨bB, 0, none⟩ (.slice p4 n4 c4)) bB 53 #[.slice p4 n4 c4, .int .i64 (rsV n l S V)] := hB4.set 0 _
   have gC := grown_cell (w := w4) (b := bB) (i := 0) (.slice p4 n4 c4)
   have hO5 := (hO4.weak (Nat.zero_le _)).kept hB4 (by decide) gC
   have hU5 := grown_up2 (hU3.trans hu4) gC HbB.out
   have hQ5 := Blk.kept hB4 gC (hQ3.up hu4) HRB.out
   have hB5 := Blk.kept hB4 gC (hB3.up hu4) (blk_ne (hB3.up hu4) hB4 (by decide))
   clear hcW hfW hB4 gC hO4 hu4 hb3 hQ3 hB3 hU3 hS3
   obtain ⟨w5, hw5⟩ : ∃ x, w4.setCell ⟨bB, 0, none⟩ (.slice p4 n4 c4) = x := ⟨_, rfl⟩
   rw [hw5] at hB5p hO5 hU5 hQ5 hB5 ⊢
   clear hw5
   go_upto_region 10 with (first
    | ((with_reducible apply ldM_P); exact rfl; exact rfl; exact hB5; exact rfl)
    | (go_at_call 40; (with_reducible refine (HBn.out _ hU5).mono ?_); rintro r w6 ⟨b, A, eA, rfl, hbb, hu6, hW6⟩; injection eA with eA; injection eA with eA; injection eA with _ eA; injection eA with eA; subst eA))
   have hU6 := hU5.trans hu6
   have hB6 := hB5p.up hu6
   have hO6 := hO5.up hu6
   have hQ6 := hQ5.up hu6
   have HbW := hid (show w.heap.size <= b from Nat.le_trans hU5.size hbb)
   clear hbb hu6 hU5 hB5p hO5 hQ5 hB5 HBn
   go_loopg [17] 32 (fun g tk wr => ∃ (k : Nat) (X : List Int) (p' : Option Addr) (m' c' : Nat), k <= 32 /\ 32 - k <= g /\ tk = .int .i64 (k : Nat) /\ Blk wr bB 53 #[.slice p' m' c', .int .i64 (rsV n l X V)] /\ OwnI wr 0 (.slice p' m' c') X /\ X.length = n /\ In64 X /\ rsC n l X V = 0 /\ rsV n l X V <= rsV n l S V /\
    (k : Int) <= min (max most 0) 32 /\ (rsV n l S V <= enough -> k = 0 /\ X = S) /\ WayOk wr b n (.slice p l.length cap) (.slice pv n cv) /\ Blk wr bR 53 #[.slice none 0 0, .int .i64 0] /\ Up w wr)
   case atStart => exact ⟨0, S, p4, n4, c4, by omega, by omega, rfl, hB6, hO6, HSl.out, HIS.out, HR0.out, Int.le_refl _, by omega, fun _ => ⟨rfl, rfl⟩, hW6, hQ6, hU6⟩
   case round =>
    clear hB6 hO6 hW6 hQ6 hU6
    obtain ⟨k, X, p', m', c', hk32, hkg, rfl, hBq, hO, hXl, hXI, hX0, hXle, hkm, hXs, hW, hQr, hur⟩ := hrel
    obtain ⟨off, hoff⟩ : ∃ y, rsV n l X V = y := ⟨_, rfl⟩
    have HOf := hid hoff
    have HXl := hid hXl
    have HXI := hid hXI
    have HX0 := hid hX0
    have HXle := hid hXle
    have HXs := hid hXs
    have Hkm := hid hkm
    rw [hoff] at hBq
    have hc1 : wr.cell? ⟨bB, 1, none⟩ = some (.int .i64 off) := hBq.cell 1 rfl
    clear hoff hXl hXI hX0 hXle hXs hkm
    by_cases h1 : enough < off
    ·have d1 : decide (enough < off) = true := decide_eq_true h1
     have H1 := hid h1
     by_cases h2 : (k : Int) < min most 32
     ·have d2 : decide ((k : Int) < min most 32) = true := decide_eq_true h2
      have H2 := hid h2
      have HSt := hid (cgstep_any hW (fun w' hg => HV.out _ (grown_up2 hur hg HbW.out)) HVl.out HIV.out n8)
      clear h1 h2
      obtain ⟨_, _, _, _, hWb, -⟩ := id hW
      have HNB := hid (blk_ne hBq hWb (by decide))
      have HNR := hid (blk_ne hQr hWb (by decide))
      go_upto_if 64 with (first
       | (go_at_call 41; (with_reducible refine (HSt.out).mono ?_); rintro r w7 ⟨kk, rfl, hg7, hW7⟩))
      have hU7 := grown_up2 hur hg7 HbW.out
      have hB7 := Blk.kept hWb hg7 hBq HNB.out
      have hQ7 := Blk.kept hWb hg7 hQr HNR.out
      have hO7 := hO.kept hWb (by decide) hg7
      clear hg7 hWb hur hBq hQr hO hW hc1 HSt HNB HNR
      cases kk with
      | false =>
        go_wp2_with (first
         | ((with_reducible apply ldQ_P); exact rfl; exact rfl; exact hB7; exact rfl)
         | ((with_reducible apply stQ_P); exact rfl; exact rfl; exact hQ7; exact rfl; exact rfl; exact two3 _ _ _ _ _))
        exact bodyPost_ret (resQ3 rfl _ _ rfl (Blk.setRow hQ7 _) rfl) rfl (.inr ⟨HC0.out, p', m', c', X, k, by rw [HOf.out]; rfl, below_setRow hU7 HbR.out _, (hO7.kept hQ7 (by decide) (grown_setRow _)).vw, by rw [Int.toNat_natCast]; exact HXl.out, HXI.out, HX0.out, HXle.out, by omega, Hkm.out, fun h => by obtain ⟨h3, h4⟩ := HXs.out h; exact ⟨by omega, h4⟩⟩)
      | true =>
        have HPc := hid (place_any hW7 (HM.out _ hU7) HR.out (HV.out _ hU7) HVl.out HIV.out)
        have e1 : IntKind.i64.wrap ((k : Int) + 1) = (k : Int) + 1 := IntWalk.i64_in _ (by omega)
        go_upto_region 13 with (first
         | (go_at_call 42; (with_reducible refine (HPc.out).mono ?_); rintro r w8 ⟨p8, m8, c8, off8, u8, rfl, hu8, h8⟩)
         | ((with_reducible apply stQ_P); exact rfl; exact rfl; exact Blk.new _ _ rfl; exact rfl; exact rfl; exact two3 _ _ _ _ _
            refine wpL_folded (fun wd => Up w8 wd /\ Blk wd w8.heap.size 53 #[.slice p8 m8 c8, .int .i64 off8]) ⟨gUp, gBlk⟩ ?_
            rintro w9 ⟨hu9, hH9⟩))
        have hNH : bB ≠ w8.heap.size := by have := (hB7.up hu8).lt; omega
        obtain ⟨bH, hbH⟩ : ∃ y, w8.heap.size = y := ⟨_, rfl⟩
        rw [hbH] at hH9 hNH ⊢
        have hu79 := hu8.trans hu9
        have hU9 := hU7.trans hu79
        have hB9 := hB7.up hu79
        have hQ9 := hQ7.up hu79
        have hO9 := hO7.up hu79
        have hW9 := hW7.up hu79
        clear hbH hu8 hu79 hU7 hB7 hQ7 hO7 hW7 HPc
        rcases h8 with ⟨rfl, X8, hO8, hXl8, hXI8, hX08, hoff8⟩ | ⟨e8, hE8, hh8⟩
        ·have hO8 := (hO8.weak (Nat.zero_le _)).up hu9
         have HX8 := hid (show X8.length = n /\ In64 X8 /\ rsC n l X8 V = 0 /\ off8 = rsV n l X8 V from ⟨hXl8, hXI8, hX08, hoff8⟩)
         have HIs := hid (fun w => is_nil 21 w)
         clear hXl8 hXI8 hX08 hoff8 hu9
         have hcB : w9.cell? ⟨bB, 1, none⟩ = some (.int .i64 off) := hB9.cell 1 rfl
         have hcH : w9.cell? ⟨bH, 1, none⟩ = some (.int .i64 off8) := hH9.cell 1 rfl
         by_cases h3 : off8 < off
         ·have d3 : decide (off8 < off) = true := decide_eq_true h3
          have H3 := hid h3
          clear h3
          go_wp2_with (first
           | (go_at_call 43; (with_reducible refine (HIs.out _).mono ?_); rintro r w10 ⟨rfl, hu10⟩; have hcB := (hB9.up hu10).cell 1 rfl; have hcH := (hH9.up hu10).cell 1 rfl)
           | ((with_reducible apply ldQ_P); exact rfl; exact rfl; exact hH9.up hu10; exact rfl)
           | ((with_reducible apply stQ_P); exact rfl; exact rfl; exact hB9.up hu10; exact rfl; exact rfl; exact two3 _ _ _ _ _))
          have hBk := hB9.up hu10
          have gK := grown_setRow (w := w10) (b := bB) #[.slice p8 m8 c8, .int .i64 off8]
          go_roundg (32 - (k + 1))
          case measure => have := H2.out; omega
          case rel => exact ⟨k + 1, X8, p8, m8, c8, by have := H2.out; omega, Nat.le_refl _, rfl, by rw [<- HX8.out.2.2.2]; exact hBk.setRow _, (hO8.up hu10).kept hBk (by decide) gK, HX8.out.1, HX8.out.2.1, HX8.out.2.2.1, by have := H3.out; have := HX8.out.2.2.2; have := HOf.out; have := HXle.out; omega, by have := H2.out; omega, fun h => by have := H1.out; have := HXle.out; have := HOf.out; omega, (hW9.up hu10).kept hBk (by decide) (by decide) (by decide) gK, Blk.kept hBk gK (hQ9.up hu10) HRB.out, below_setRow (hU9.trans hu10) HbB.out _⟩
         ·have d3 : decide (off8 < off) = false := decide_eq_false h3
          clear h3
          go_wp2_with (first
           | (go_at_call 43; (with_reducible refine (HIs.out _).mono ?_); rintro r w10 ⟨rfl, hu10⟩; have hcB := (hB9.up hu10).cell 1 rfl; have hcH := (hH9.up hu10).cell 1 rfl))
          go_roundg (32 - (k + 1))
          case measure => have := H2.out; omega
          case rel => exact ⟨k + 1, X, p', m', c', by have := H2.out; omega, Nat.le_refl _, rfl, by rw [HOf.out]; exact hB9.up hu10, hO9.up hu10, HXl.out, HXI.out, HX0.out, HXle.out, by have := H2.out; omega, fun h => by have := H1.out; have := HXle.out; have := HOf.out; omega, hW9.up hu10, hQ9.up hu10, hU9.trans hu10⟩
        ·have HIs := hid (fun w' (hu : Up w9 w') => show Calls Tryz.prog 43 #[u8, .iface 59 (.int .i64 21)] w' (fun r w'' => r = .returned (.bool true) /\ Up w' w'') from by have h := is_any 21 (hE8.up (hu9.trans hu)); rw [hh8] at h; exact h)
         obtain ⟨t8, y8, rfl⟩ := hE8.iface
         clear hh8 hE8 hu9
         go_wp2_with (first
          | (go_at_call 43; (with_reducible refine (HIs.out _ (Up.refl _)).mono ?_); rintro r w10 ⟨rfl, hu10⟩))
         go_roundg (32 - (k + 1))
         case measure => have := H2.out; omega
         case rel => exact ⟨k + 1, X, p', m', c', by have := H2.out; omega, Nat.le_refl _, rfl, by rw [HOf.out]; exact hB9.up hu10, hO9.up hu10, HXl.out, HXI.out, HX0.out, HXle.out, by have := H2.out; omega, fun h => by have := H1.out; have := HXle.out; have := HOf.out; omega, hW9.up hu10, hQ9.up hu10, hU9.trans hu10⟩
     ·have d2 : decide ((k : Int) < min most 32) = false := decide_eq_false h2
      clear h1 h2
      go_wp2_with (first
       | ((with_reducible apply ldQ_P); exact rfl; exact rfl; exact hBq; exact rfl)
       | ((with_reducible apply stQ_P); exact rfl; exact rfl; exact hQr; exact rfl; exact rfl; exact two3 _ _ _ _ _))
      exact bodyPost_ret (resQ3 rfl _ _ rfl (Blk.setRow hQr _) rfl) rfl (.inr ⟨HC0.out, p', m', c', X, k, by rw [HOf.out]; rfl, below_setRow hur HbR.out _, (hO.kept hQr (by decide) (grown_setRow _)).vw, by rw [Int.toNat_natCast]; exact HXl.out, HXI.out, HX0.out, HXle.out, by omega, Hkm.out, fun h => by obtain ⟨h3, h4⟩ := HXs.out h; exact ⟨by omega, h4⟩⟩)
    ·have d1 : decide (enough < off) = false := decide_eq_false h1
     clear h1
     go_wp2_with (first
      | ((with_reducible apply ldQ_P); exact rfl; exact rfl; exact hBq; exact rfl)
      | ((with_reducible apply stQ_P); exact rfl; exact rfl; exact hQr; exact rfl; exact rfl; exact two3 _ _ _ _ _))
     exact bodyPost_ret (resQ3 rfl _ _ rfl (Blk.setRow hQr _) rfl) rfl (.inr ⟨HC0.out, p', m', c', X, k, by rw [HOf.out]; rfl, below_setRow hur HbR.out _, (hO.kept hQr (by decide) (grown_setRow _)).vw, by rw [Int.toNat_natCast]; exact HXl.out, HXI.out, HX0.out, HXle.out, by omega, Hkm.out, fun h => by obtain ⟨h3, h4⟩ := HXs.out h; exact ⟨by omega, h4⟩⟩)
  ·have HW := hid (fun w' (hu : Up w3 w') => cgwrong_any ((show ErrsP solveB w3 (.iface t y) (rsC N l S V) from .inr ⟨h0, t, y, rfl, hE⟩).up hu))
   have HC2 := hid (show C ≠ 0 from HCr.out ▸ h0)
   clear h0
   go_wp2_with (first
    | (go_at_call 29; (with_reducible refine (HW.out _ (Up.refl _)).mono ?_); rintro r w4 ⟨v4, rfl, hu4, he4⟩; have hQ4 := hQ3.up hu4)
    | ((with_reducible apply stQ_P); exact rfl; exact rfl; exact hQ4; exact rfl; exact rfl; exact two3 _ _ _ _ _))
   exact bodyPost_ret (resQ3 rfl _ _ rfl (Blk.setRow hQ4 _) rfl) rfl (.inl ⟨HC2.out, v4, rfl, below_setRow (hU3.trans hu4) HbR.out _, by rw [HCr.out]; exact he4.setRow hQ4 (by decide)⟩)
 ·have HCr : Hid (C = neC N l V) := hid (by rw [<- HC.out]; exact if_neg h0)
  have HW := hid (fun w' (hu : Up w1 w') => cgwrong_any ((show ErrsP solveB w1 (.iface t y) (neC N l V) from .inr ⟨h0, t, y, rfl, hE⟩).up hu))
  have HC2 := hid (show C ≠ 0 from HCr.out ▸ h0)
  clear h0
  go_wp2_with (first
   | (go_at_call 29; (with_reducible refine (HW.out _ (Up.refl _)).mono ?_); rintro r w4 ⟨v4, rfl, hu4, he4⟩; have hQ4 := hQ1.up hu4)
   | ((with_reducible apply stQ_P); exact rfl; exact rfl; exact hQ4; exact rfl; exact rfl; exact two3 _ _ _ _ _))
  exact bodyPost_ret (resQ3 rfl _ _ rfl (Blk.setRow hQ4 _) rfl) rfl (.inl ⟨HC2.out, v4, rfl, below_setRow (hU1.trans hu4) HbR.out _, by rw [HCr.out]; exact he4.setRow hQ4 (by decide)⟩)
section
variable {mv vv sv : Value} {N most enough : Int} {l V S : List Int} {w : World} (hm : Sm w mv N l) (hv : Vw w vv V) (hs : Vw w sv S) (hIv : In64 V) (hIs : In64 S) (hlv : V.length <= 1000) (hls : S.length <= 1000)
include hm hv hs hIv hIs hlv hls
theorem walk_bad (h0 : cgC N l V S ≠ 0) : Calls Tryz.prog 18 #[mv, vv, sv, .int .i64 most, .int .i64 enough] w fun r w' => ∃ u, r = .returned (.tuple #[.agg #[.slice none 0 0, .int .i64 0], .int .i64 0, u]) /\ Up w w' /\ ErrsC w' u (cgC N l V S) :=
 (walk_any hm hv hs hIv hIs hlv hls).mono fun _ _ h => by
  rcases h with ⟨_, h⟩ | ⟨h, _⟩
  ·exact h
  ·exact absurd h h0
theorem walk_good (h0 : cgC N l V S = 0) : Calls Tryz.prog 18 #[mv, vv, sv, .int .i64 most, .int .i64 enough] w fun r w' => ∃ p m c X k, r = .returned (.tuple #[.agg #[.slice p m c, .int .i64 (rsV N l X V)], .int .i64 k, .nilIface]) /\ Up w w' /\ Vw w' (.slice p m c) X /\ X.length = N.toNat /\ In64 X /\
   rsC N l X V = 0 /\ rsV N l X V <= rsV N l S V /\ 0 <= k /\ k <= min (max most 0) 32 /\ (rsV N l S V <= enough -> k = 0 /\ X = S) :=
 (walk_any hm hv hs hIv hIs hlv hls).mono fun _ _ h => by
  rcases h with ⟨h, _⟩ | ⟨_, h⟩
  ·exact absurd h0 h
  ·exact h
end
def RunBad (w : World) (C : Int) (r : Ending) (w' : World) : Prop := ∃ u, r = .returned (.tuple #[.slice none 0 0, .int .i64 0, u]) /\ Up w w' /\ ErrsC w' u C
def RunGood (w : World) (N : Int) (l V S : List Int) (most enough : Int) (r : Ending) (w' : World) : Prop := ∃ z X k, r = .returned (.tuple #[z, .int .i64 k, .nilIface]) /\ Up w w' /\ Vw w' z X /\ X.length = N.toNat /\ In64 X /\
    rsC N l X V = 0 /\ rsV N l X V <= rsV N l S V /\ 0 <= k /\ k <= min (max most 0) 32 /\ (rsV N l S V <= enough -> k = 0 /\ X = S)
set_option maxHeartbeats 8000000 in
theorem run_any {mv vv sv : Value} {N most enough : Int} {l V S : List Int} {w : World} (hm : Sm w mv N l) (hv : Vw w vv V) (hs : Vw w sv S) (hIv : In64 V) (hIs : In64 S) (hlv : V.length <= 1000) (hls : S.length <= 1000) :
   (cgC N l V S ≠ 0 -> Calls Tryz.prog 8 #[mv, vv, sv, .int .i64 most, .int .i64 enough] w (RunBad w (cgC N l V S))) /\
   (cgC N l V S = 0 -> Calls Tryz.prog 8 #[mv, vv, sv, .int .i64 most, .int .i64 enough] w (RunGood w N l V S most enough)) := by
 have HB := hid (fun h0 w' (hu : Up w w') => walk_bad (most := most) (enough := enough) (hm.up hu) (Vw.up hu hv) (Vw.up hu hs) hIv hIs hlv hls h0)
 have HG := hid (fun h0 w' (hu : Up w w') => walk_good (most := most) (enough := enough) (hm.up hu) (Vw.up hu hv) (Vw.up hu hs) hIv hIs hlv hls h0)
 obtain ⟨pv, cv, rfl, -, -⟩ := hv
 obtain ⟨ps, cs, rfl, -, -⟩ := hs
 obtain ⟨s, rfl, ⟨p, cap, rfl, -, -⟩, -, -, -⟩ := hm
 obtain ⟨W0, hW0⟩ : ∃ W0, w.alloc (.cells #[.int .i64 N, .slice p l.length cap] 24) = W0 := ⟨_, rfl⟩
 have hB : Blk W0 w.heap.size 24 #[.int .i64 N, .slice p l.length cap] := by rw [<- hW0]; exact Blk.new _ _ rfl
 have hU : Up w W0 := by rw [<- hW0]; exact Up.alloc _ _
 clear hIv hIs hlv hls
 unfold RunBad RunGood
 constructor
 ·intro h0
  have HW := hid (HB.out h0)
  have H0 := hid h0
  clear h0 HB HG
  generalize cgC N l V S = C at *
  go_enter Tryz.func8, Tryz.ntmps8
  go_upto_region 2 with (first
   | ((with_reducible apply ldM_P); exact rfl; exact rfl; exact hB; exact rfl)
   | (go_at_call 18; (with_reducible refine (HW.out _ hU).mono ?_); rintro r w1 ⟨u1, rfl, hu1, he1⟩)
   | ((with_reducible apply stQ_P); exact rfl; exact rfl; exact Blk.new _ _ rfl; exact rfl; exact rfl; exact two3 _ _ _ _ _
      refine wpL_folded (fun wd => Up w1 wd) gUp ?_
      rintro w2 hu2))
  rcases he1 with ⟨h0, -⟩ | ⟨h0, t, x, rfl, hE⟩
  ·exact absurd h0 H0.out
  ·have HE := hid hE
   clear hE h0
   go_wp2_with fail
   go_ret3
   exact ⟨_, rfl, (hU.trans hu1).trans hu2, .inr ⟨H0.out, t, x, rfl, HE.out.up hu2⟩⟩
 ·intro h0
  have HW := hid (HG.out h0)
  clear h0 HB HG
  go_enter Tryz.func8, Tryz.ntmps8
  go_wp2_with (first
   | ((with_reducible apply ldM_P); exact rfl; exact rfl; exact hB; exact rfl)
   | (go_at_call 18; (with_reducible refine (HW.out _ hU).mono ?_); rintro r w1 ⟨p1, m1, c1, X, k, rfl, hu1, hX, hR⟩; have HR := hid hR; clear hR)
   | ((with_reducible apply stQ_P); exact rfl; exact rfl; exact Blk.new _ _ rfl; exact rfl; exact rfl; exact two3 _ _ _ _ _
      refine wpL_folded (fun wd => Up w1 wd /\ Blk wd w1.heap.size 53 #[.slice p1 m1 c1, .int .i64 (rsV N l X V)]) ⟨gUp, gBlk⟩ ?_
      rintro w2 ⟨hu2, hb2⟩
      have hc2 := hb2.cell 0 rfl))
  go_ret3
  exact ⟨_, X, k, rfl, (hU.trans hu1).trans hu2, Vw.up hu2 hX, HR.out⟩
def SettleBad (w : World) (C : Int) (r : Ending) (w' : World) : Prop := ∃ u, r = .returned (.tuple #[.slice none 0 0, .bool false, u]) /\ Up w w' /\ ErrsC w' u C
def SettleGood (w : World) (N : Int) (l V S : List Int) (enough : Int) (r : Ending) (w' : World) : Prop := ∃ z X ok, r = .returned (.tuple #[z, .bool ok, .nilIface]) /\ Up w w' /\ Vw w' z X /\ In64 X /\ X.length <= 8 /\
    (ok = true -> rsC N l X V = 0 /\ rsV N l X V <= enough) /\ (ok = false -> X = neL N l V) /\ (rsV N l S V <= enough -> ok = true /\ X = S)
theorem vfit_in {l : List Int} (h : l.all vfit = true) : In64 l := fun i hi => by
 have h1 := List.all_eq_true.1 h (zth l i) (by rw [zth_get hi]; exact List.getElem_mem _)
 unfold vfit at h1
 have := of_decide_eq_true h1
 unfold I64
 omega
theorem neL_in (N : Int) (l x : List Int) : In64 (neL N l x) /\ (neL N l x).length <= 8 := by
 unfold neL
 by_cases h0 : neC N l x = 0
 ·rw [if_pos h0]
  unfold neC at h0
  by_cases h1 : slC N l x = 0
  ·rw [if_pos h1] at h0
   by_cases h2 : (nrL N.toNat l x).all vfit = true
   ·obtain ⟨n, rfl, hD, -⟩ := slC_def h1
    have el : (nrL n l x).length = n := mk_len _ _
    refine ⟨vfit_in h2, ?_⟩
    show (nrL n l x).length <= 8
    rw [el]; exact hD.n8
   ·rw [if_neg h2] at h0; exact absurd h0 (by decide)
  ·rw [if_neg h1] at h0; exact absurd h0 h1
 ·rw [if_neg h0]; exact ⟨fun i hi => absurd hi (Nat.not_lt_zero _), Nat.zero_le _⟩
theorem cgC_zero {N : Int} {l V S : List Int} (h : cgC N l V S = 0) : neC N l V = 0 /\ rsC N l S V = 0 := by
 unfold cgC at h
 by_cases h0 : neC N l V = 0
 ·rw [if_pos h0] at h; exact ⟨h0, h⟩
 ·rw [if_neg h0] at h; exact absurd h h0
set_option maxHeartbeats 8000000 in
theorem settle_any {mv vv sv : Value} {N enough : Int} {l V S : List Int} {w : World} (hm : Sm w mv N l) (hv : Vw w vv V) (hs : Vw w sv S) (hIv : In64 V) (hIs : In64 S) (hlv : V.length <= 1000) (hls : S.length <= 1000) :
   (cgC N l V S ≠ 0 -> Calls Tryz.prog 12 #[mv, vv, sv, .int .i64 enough] w (SettleBad w (cgC N l V S))) /\
   (cgC N l V S = 0 -> Calls Tryz.prog 12 #[mv, vv, sv, .int .i64 enough] w (SettleGood w N l V S enough)) := by
 have HB := hid (fun h0 w' (hu : Up w w') => walk_bad (most := 32) (enough := enough) (hm.up hu) (Vw.up hu hv) (Vw.up hu hs) hIv hIs hlv hls h0)
 have HG := hid (fun h0 w' (hu : Up w w') => walk_good (most := 32) (enough := enough) (hm.up hu) (Vw.up hu hv) (Vw.up hu hs) hIv hIs hlv hls h0)
 have HN := hid (fun w' (hu : Up w w') => near_sol (hm.up hu) (Vw.up hu hv) hIv hlv)
 obtain ⟨pv, cv, rfl, -, -⟩ := hv
 obtain ⟨ps, cs, rfl, -, -⟩ := hs
 obtain ⟨s, rfl, ⟨p, cap, rfl, -, -⟩, -, -, -⟩ := hm
 obtain ⟨W0, hW0⟩ : ∃ W0, w.alloc (.cells #[.int .i64 N, .slice p l.length cap] 24) = W0 := ⟨_, rfl⟩
 have hB : Blk W0 w.heap.size 24 #[.int .i64 N, .slice p l.length cap] := by rw [<- hW0]; exact Blk.new _ _ rfl
 have hU : Up w W0 := by rw [<- hW0]; exact Up.alloc _ _
 clear hIv hIs hlv hls
 unfold SettleBad SettleGood
 unfold NearPost at HN
 constructor
 ·intro h0
  have HW := hid (HB.out h0)
  have H0 := hid h0
  clear h0 HB HG HN
  generalize cgC N l V S = C at *
  go_enter Tryz.func12, Tryz.ntmps12
  go_upto_region 2 with (first
   | ((with_reducible apply ldM_P); exact rfl; exact rfl; exact hB; exact rfl)
   | (go_at_call 18; (with_reducible refine (HW.out _ hU).mono ?_); rintro r w1 ⟨u1, rfl, hu1, he1⟩)
   | ((with_reducible apply stQ_P); exact rfl; exact rfl; exact Blk.new _ _ rfl; exact rfl; exact rfl; exact two3 _ _ _ _ _
      refine wpL_folded (fun wd => Up w1 wd) gUp ?_
      rintro w2 hu2))
  rcases he1 with ⟨h0, -⟩ | ⟨h0, t, x, rfl, hE⟩
  ·exact absurd h0 H0.out
  ·have HE := hid hE
   clear hE h0
   go_wp2_with fail
   go_ret3
   exact ⟨_, rfl, (hU.trans hu1).trans hu2, .inr ⟨H0.out, t, x, rfl, HE.out.up hu2⟩⟩
 ·intro h0
  have HW := hid (HG.out h0)
  have HZ := hid (cgC_zero h0)
  clear h0 HB HG
  go_enter Tryz.func12, Tryz.ntmps12
  go_upto_region 4 with (first
   | ((with_reducible apply ldM_P); exact rfl; exact rfl; exact hB; exact rfl)
   | (go_at_call 18; (with_reducible refine (HW.out _ hU).mono ?_); rintro r w1 ⟨p1, m1, c1, X, k, rfl, hu1, hX, hR⟩; have HR := hid hR; clear hR; obtain ⟨off, hoff⟩ : ∃ y, rsV N l X V = y := ⟨_, rfl⟩; have HOf := hid hoff; rw [hoff]; clear hoff)
   | ((with_reducible apply stQ_P); exact rfl; exact rfl; exact Blk.new _ _ rfl; exact rfl; exact rfl; exact two3 _ _ _ _ _
      refine wpL_folded (fun wd => Up w1 wd /\ Blk wd w1.heap.size 53 #[.slice p1 m1 c1, .int .i64 off]) ⟨gUp, gBlk⟩ ?_
      rintro w2 ⟨hu2, hb2⟩))
  have hc0 := hb2.cell 0 rfl
  have hc1 : w2.cell? ⟨w1.heap.size, 1, none⟩ = some (.int .i64 off) := hb2.cell 1 rfl
  have hU2 := (hU.trans hu1).trans hu2
  have hX2 := Vw.up hu2 hX
  have hB2 := hB.up (hu1.trans hu2)
  by_cases h1 : off <= enough
  ·have d1 : decide (off <= enough) = true := decide_eq_true h1
   have H1 := hid h1
   clear h1
   go_wp2_with fail
   go_ret3
   refine ⟨_, X, true, rfl, hU2, hX2, HR.out.2.1, ?_, fun _ => ⟨HR.out.2.2.1, by rw [HOf.out]; exact H1.out⟩, fun h => absurd h (by decide), fun h => ⟨rfl, (HR.out.2.2.2.2.2.2 h).2⟩⟩
   obtain ⟨n, rfl, hRt, hxl, -⟩ := rsC_len HR.out.2.2.1
   have := (rt_spec hRt).2.1
   omega
  ·have d1 : decide (off <= enough) = false := decide_eq_false h1
   have HN1 := hid (fun (h : rsV N l S V <= enough) => h1 (by have := (HR.out.2.2.2.2.2.2 h).2; rw [<- HOf.out, this]; exact h))
   clear h1 hX2 hX hc0 hu1 hu2 hW0
   go_wp2_with (first
    | ((with_reducible apply ldM_P); exact rfl; exact rfl; exact hB2; exact rfl)
    | (go_at_call 28; (with_reducible refine (HN.out _ hU2).mono ?_); rintro r w3 ⟨z3, u3, rfl, hu3, hV3, -, he3⟩; have HE3 := hid he3)
    | (go_at_call 29; (with_reducible refine (cgwrong_any HE3.out).mono ?_); rintro r w4 ⟨u4, rfl, hu4, he4⟩; obtain rfl := he4.elim (fun h => h.2) (fun h => absurd HZ.out.1 h.1)))
   go_ret3
   exact ⟨_, neL N l V, false, rfl, (hU2.trans hu3).trans hu4, Vw.up hu4 hV3, (neL_in N l V).1, (neL_in N l V).2, fun h => absurd h (by decide), fun _ => rfl, fun h => absurd h HN1.out⟩
theorem undBs : Tryz.prog.underlying 61 = some (.slice 66) := by kernel_rfl
theorem infoBs : (Tryz.prog.info? 66).map (fun i => (i.zero, i.size, i.bytes)) = some (some (.agg #[.bool false, .slice none 0 0]), 2, 32) := by kernel_rfl
def BigAt (w : World) (get : Nat -> Option Value) (i : Nat) (z : Int) : Prop :=
 ∃ b a n c, get (i * 2) = some (.bool b) /\ get (i * 2 + 1) = some (.slice a n c) /\ Big w (.agg #[.bool b, .slice a n c]) z
theorem BigAt.up {w w' : World} (hu : Up w w') {get : Nat -> Option Value} {i : Nat} {z : Int} (h : BigAt w get i z) : BigAt w' get i z := by
 obtain ⟨b, a, n, c, h1, h2, h3⟩ := h
 exact ⟨b, a, n, c, h1, h2, h3.up hu⟩
def OwnB (w : World) (base : Nat) (v : Value) (l : List Int) : Prop :=
 ∃ xs : List Value, w.ownsRow base 66 2 v l.length xs /\ ∀ i, i < l.length -> BigAt w (fun k => xs[k]?) i (zth l i)
theorem OwnB.up {w w' : World} {base : Nat} {v : Value} {l : List Int} (hu : Up w w') (h : OwnB w base v l) : OwnB w' base v l := by
 obtain ⟨xs, h1, h2⟩ := h
 exact ⟨xs, World.ownsRow.up h1 hu, fun i hi => (h2 i hi).up hu⟩
theorem OwnB.nil (w : World) (base : Nat) : OwnB w base (.slice none 0 0) [] := ⟨[], World.ownsRow_nil _ _ _ _, fun _ hi => absurd hi (Nat.not_lt_zero _)⟩
def Bv (w : World) (v : Value) (l : List Int) : Prop :=
 (l = [] /\ ∃ p c, v = .slice p 0 c) \/ ∃ g cap C, v = .slice (some ⟨g, 0, none⟩) l.length cap /\ l.length <= cap /\ Blk w g 66 C /\ ∀ i, i < l.length -> BigAt w (fun k => C[k]?) i (zth l i)
theorem Bv.up {w w' : World} (hu : Up w w') {v : Value} {l : List Int} (h : Bv w v l) : Bv w' v l := by
 rcases h with h | ⟨g, cap, C, h1, h2, h3, h4⟩
 ·exact .inl h
 ·exact .inr ⟨g, cap, C, h1, h2, h3.up hu, fun i hi => (h4 i hi).up hu⟩
theorem Bv.slice {w : World} {v : Value} {l : List Int} (h : Bv w v l) : ∃ p c, v = .slice p l.length c := by
 rcases h with ⟨rfl, p, c, rfl⟩ | ⟨g, cap, C, rfl, _⟩
 ·exact ⟨p, c, rfl⟩
 ·exact ⟨_, cap, rfl⟩
theorem Bv.open {w : World} {v : Value} {l : List Int} (h : Bv w v l) (h0 : 0 < l.length) :
   ∃ g cap C, v = .slice (some ⟨g, 0, none⟩) l.length cap /\ l.length <= cap /\ Blk w g 66 C /\ ∀ i, i < l.length -> BigAt w (fun k => C[k]?) i (zth l i) := by
 rcases h with ⟨rfl, _⟩ | h
 ·exact absurd h0 (by decide)
 ·exact h
theorem OwnB.open {w : World} {base : Nat} {v : Value} {l : List Int} (h : OwnB w base v l) (h0 : 0 < l.length) :
   ∃ g cap C, v = .slice (some ⟨g, 0, none⟩) l.length cap /\ base <= g /\ Blk w g 66 C /\ l.length <= cap /\ cap <= maxLen /\ C.size = cap * 2 /\ ∀ i, i < l.length -> BigAt w (fun k => C[k]?) i (zth l i) := by
 obtain ⟨xs, ⟨_, h1 | ⟨g, cap, cur, hv, hb, hB, hc, hm, hs, ht⟩⟩, h2⟩ := h
 ·omega
 ·refine ⟨g, cap, cur, hv, hb, hB, hc, hm, hs, fun i hi => ?_⟩
  obtain ⟨b, a, n, c, h3, h4, h5⟩ := h2 i hi
  rw [<- ht] at h3 h4
  refine ⟨b, a, n, c, ?_, ?_, h5⟩
  ·dsimp only at h3 ⊢; rw [<- h3, List.getElem?_take_of_lt (by omega), Array.getElem?_toList]
  ·dsimp only at h4 ⊢; rw [<- h4, List.getElem?_take_of_lt (by omega), Array.getElem?_toList]
theorem OwnB.bv {w : World} {base : Nat} {v : Value} {l : List Int} (h : OwnB w base v l) : Bv w v l := by
 rcases Nat.eq_zero_or_pos l.length with h0 | h0
 ·obtain ⟨xs, ⟨_, ⟨rfl, _⟩ | ⟨g, cap, cur, rfl, _⟩⟩, _⟩ := h
  ·exact .inl ⟨List.length_eq_zero_iff.1 h0, _, _, rfl⟩
  ·exact .inl ⟨List.length_eq_zero_iff.1 h0, _, _, by rw [h0]⟩
 ·obtain ⟨g, cap, C, hv, _, hB, hc, _, _, hE⟩ := h.open h0
  exact .inr ⟨g, cap, C, hv, hc, hB, hE⟩
theorem OwnB.slice {w : World} {base : Nat} {v : Value} {l : List Int} (h : OwnB w base v l) : ∃ p c, v = .slice p l.length c := h.bv.slice
theorem big_zero (w : World) : Big w (.agg #[.bool false, .slice none 0 0]) 0 := ⟨none, 0, by simp [nl_zero], am_nil w⟩
section
variable {a : Act} {w : World} {g off : Nat} {vs : List Value}
theorem bigAt_range {C : Array Value} (hB : Blk w g 66 C) {i : Nat} {b : Bool} {p : Option Addr} {n c : Nat} (h1 : C[i * 2]? = some (.bool b)) (h2 : C[i * 2 + 1]? = some (.slice p n c)) : w.rangeAt g (i * 2) [.bool b, .slice p n c] := by
 intro j v hv
 rcases j with _ | _ | j
 ·simp at hv; subst hv; exact hB.cell _ h1
 ·simp at hv; subst hv; exact hB.cell _ h2
 ·simp at hv
theorem run_ldB2 {o : Oper} {ev : Operand -> Value} {x : Operand} {b : Bool} {p : Option Addr} {n c : Nat} (ho : o.op = .load 66 x) (hx : ev x = .pointer (some ⟨g, off, none⟩)) (hC : w.rangeAt g off [.bool b, .slice p n c]) :
   (execOp ev o).run Tryz.prog w = .ok (.value (.agg #[.bool b, .slice p n c])) w := by
 obtain ⟨fs, hfs⟩ := undB
 unfold execOp
 simp only [ho, hx, Instr.loadAt, Instr.sureAddr, Sem.run_bind, Sem.run_pure, Result.andThen_ok, run_loadVar_mid w g off _ _ _ hC hfs rfl (by rw [infoB]; rfl)]
theorem ldB2_P {ops : Array Oper} {rest : List Oper} {Q : Exit -> Act -> World -> Prop} {d : Option Tmp} {s : Tmp} {ty : TypeId} {pos : String} {af : Array Edge} {gd : Option (Nat × Bool)} {b : Bool} {p : Option Addr} {n c : Nat} (hw : Region.wanted { dst := d, op := .load 66 (.tmp s), type := ty, pos := pos, after := af, guard := gd } (yielded ops a.tmps) = true) (hx : a.eval (.tmp s) = .pointer (some ⟨g, off, none⟩))
   (hC : w.rangeAt g off [.bool b, .slice p n c]) (h : wpList Tryz.prog ops Q rest (a.put d (.agg #[.bool b, .slice p n c])) w) : wpList Tryz.prog ops Q ({ dst := d, op := .load 66 (.tmp s), type := ty, pos := pos, after := af, guard := gd } :: rest) a w :=
 wpList_run hw (run_ldB2 rfl hx hC) h
def splB (C : Array Value) (off : Nat) (vs : List Value) : Array Value := (C.toList.take off ++ vs ++ C.toList.drop (off + 2)).toArray
theorem run_svB {C : Array Value} {b : Bool} {p : Option Addr} {n c : Nat} (hB : Blk w g 66 C) (hl : off + 2 <= C.size) :
   (storeVar 66 ⟨g, off, none⟩ (.agg #[.bool b, .slice p n c])).run Tryz.prog w = .ok () (w.setRow g (splB C off [.bool b, .slice p n c])) := by
 have hs := run_storeCells_at Tryz.prog g off 66 [.bool b, .slice p n c] 0 C w hB (by simp; omega) (by simp [Value.oneCell'])
 rw [Nat.add_zero] at hs
 unfold splB
 have hi := infoB
 cases hq : Tryz.prog.info? 66 with
 | none => rw [hq] at hi; simp at hi
 | some i =>
   rw [hq] at hi
   have hz : i.size = 2 := by simpa using hi
   have hv : (Value.agg #[.bool b, .slice p n c]).cells.toList = [.bool b, .slice p n c] := rfl
   have hn : (Value.agg #[.bool b, .slice p n c]).cells.size = 2 := rfl
   have hl2 : ([Value.bool b, .slice p n c]).length = 2 := rfl
   rw [hl2] at hs
   simp [storeVar, sizeOf, typeInfo, hq, hz, hv, hn, hs]
theorem wp_stB2 {C : Array Value} {b : Bool} {p : Option Addr} {n c : Nat} {K : Act -> World -> Prop} {Q : Exit -> Act -> World -> Prop} {o : Oper} (x y : Operand) (ho : o.op = .store 66 x y) (hx : a.eval x = .pointer (some ⟨g, off, none⟩)) (hy : a.eval y = .agg #[.bool b, .slice p n c]) (hB : Blk w g 66 C) (hl : off + 2 <= C.size)
   (h : K (a.put o.dst undef) (w.setRow g (splB C off [.bool b, .slice p n c]))) : o.wp Tryz.prog a w K Q := by
 unfold Oper.wp execOp
 simp only [ho, hx, hy, Instr.storeAt, Instr.sureAddr, Sem.run_bind, Sem.run_pure, Result.andThen_ok, run_svB hB hl]
 exact h
end
theorem splB_size {C : Array Value} {off : Nat} {x y : Value} (hl : off + 2 <= C.size) : (splB C off [x, y]).size = C.size := by
 unfold splB; simp; omega
theorem splB_get {C : Array Value} {off k : Nat} {x y : Value} (hl : off + 2 <= C.size) : (splB C off [x, y])[k]? = if k = off then some x else if k = off + 1 then some y else C[k]? := by
 unfold splB
 have h1 : (C.toList.take off).length = off := by rw [List.length_take, Array.length_toList]; omega
 rw [List.getElem?_toArray]
 rcases Nat.lt_trichotomy k off with h | h | h
 ·rw [if_neg (by omega), if_neg (by omega), List.append_assoc, List.getElem?_append_left (by omega), List.getElem?_take_of_lt h, Array.getElem?_toList]
 ·subst h
  rw [if_pos rfl, List.append_assoc, List.getElem?_append_right (by omega), h1, Nat.sub_self]
  rfl
 ·rw [if_neg (by omega), List.append_assoc, List.getElem?_append_right (by omega), h1]
  by_cases h2 : k = off + 1
  ·rw [if_pos h2, h2, show off + 1 - off = 1 by omega]; rfl
  ·obtain ⟨d, rfl⟩ : ∃ d, k = off + 2 + d := ⟨k - (off + 2), by omega⟩
   rw [if_neg h2, show off + 2 + d - off = d + 2 by omega]
   show (C.toList.drop (off + 2))[d]? = _
   rw [List.getElem?_drop, Array.getElem?_toList]
theorem OwnB.set {w : World} {base g cap n : Nat} {C : Array Value} {l : List Int} {b : Bool} {p : Option Addr} {m c : Nat} {z : Int} (h : OwnB w base (.slice (some ⟨g, 0, none⟩) n cap) l) (hB : Blk w g 66 C) {i : Nat} (hi : i < l.length) (hb : Big w (.agg #[.bool b, .slice p m c]) z) :
   OwnB (w.setRow g (splB C (i * 2) [.bool b, .slice p m c])) base (.slice (some ⟨g, 0, none⟩) n cap) (l.set i z) /\ i * 2 + 2 <= C.size := by
 obtain ⟨g', cap', C', hv, hbs, hB', hc, hm, hs, hE⟩ := h.open (by omega)
 injection hv with e1 e2 e3
 injection e1 with e1
 injection e1 with e1
 subst e1 e2 e3
 have hCC : C' = C := by
  unfold Blk at hB hB'
  rw [hB] at hB'
  simp at hB'
  exact hB'.symm
 subst hCC
 have hl : i * 2 + 2 <= C'.size := by omega
 refine ⟨⟨(splB C' (i * 2) [.bool b, .slice p m c]).toList.take (l.length * 2), ⟨by have e := splB_size (x := .bool b) (y := .slice p m c) hl; have e2 : (splB C' (i * 2) [.bool b, .slice p m c]).toList.length = C'.size := (by rw [<- e]; simp); rw [List.length_take, e2, List.length_set]; omega, .inr ⟨g, cap, _, by rw [List.length_set], hbs, hB.setRow _, by rw [List.length_set]; exact hc, hm, by rw [splB_size hl]; exact hs, by rw [List.length_set]⟩⟩, fun k hk => ?_⟩, hl⟩
 rw [List.length_set] at hk
 have hz : zth (l.set i z) k = if i = k then z else zth l k := by
  rw [zth_get (by rw [List.length_set]; exact hk), List.getElem_set]
  split
  ·rfl
  ·rw [zth_get hk]
 have hget : ∀ q, q < l.length * 2 -> ((splB C' (i * 2) [.bool b, .slice p m c]).toList.take (l.length * 2))[q]? = if q = i * 2 then some (.bool b) else if q = i * 2 + 1 then some (.slice p m c) else C'[q]? := fun q hq => by
  rw [List.getElem?_take_of_lt hq, Array.getElem?_toList, splB_get hl]
 rw [hz]
 by_cases e : i = k
 ·subst e
  rw [if_pos rfl]
  exact ⟨b, p, m, c, by dsimp only; rw [hget _ (by omega), if_pos rfl], by dsimp only; rw [hget _ (by omega), if_neg (by omega), if_pos rfl], hb.setRow hB⟩
 ·rw [if_neg e]
  obtain ⟨b', a', n', c', h1, h2, h3⟩ := hE k hk
  exact ⟨b', a', n', c', by dsimp only; rw [hget _ (by omega), if_neg (by omega), if_neg (by omega)]; exact h1, by dsimp only; rw [hget _ (by omega), if_neg (by omega), if_neg (by omega)]; exact h2, h3.setRow hB⟩
def flat2 (n : Nat) : List Value := (List.replicate n [Value.bool false, .slice none 0 0]).flatten
theorem flat2_len (n : Nat) : (flat2 n).length = n * 2 := by unfold flat2; simp [List.length_flatten]
theorem flat2_get : ∀ n i, i < n * 2 -> (flat2 n)[i]? = some (if i % 2 = 0 then .bool false else .slice none 0 0) := by
 intro n
 induction n with
 | zero => intro i h; omega
 | succ n ih =>
   intro i h
   unfold flat2
   rw [List.replicate_succ, List.flatten_cons]
   rcases i with _ | _ | i
   ·rfl
   ·rfl
   ·show (flat2 n)[i]? = _
    rw [ih i (by omega), show (i + 1 + 1) % 2 = i % 2 by omega]
theorem made_zeros (n : Nat) : madeCells (Value.agg #[.bool false, .slice none 0 0]).cells (n * 2) = (flat2 n).toArray := by
 apply Array.ext'
 apply List.ext_getElem?
 intro i
 by_cases hi : i < n * 2
 ·rw [flat2_get n i hi]
  rcases Nat.mod_two_eq_zero_or_one i with h | h <;> simp [madeCells, Value.cells, h, hi]
 ·rw [List.getElem?_eq_none (by simp [madeCells]; omega), List.getElem?_eq_none (by show (flat2 n).length <= i; rw [flat2_len]; omega)]
theorem mkBs {ops : Array Oper} {rest : List Oper} {Q : Exit -> Act -> World -> Prop} {a : Act} {w : World} {d : Option Tmp} {l : Tmp} {ty : TypeId} {pos : String} {af : Array Edge} {n : Nat} (hl : a.eval (.tmp l) = .int .i64 (n : Nat)) (hn : n < 1000000)
   (h : ∀ w', OwnB w' w.heap.size (.slice (some ⟨w.heap.size, 0, none⟩) n n) (List.replicate n 0) -> Up w w' -> wpList Tryz.prog ops Q rest (a.put d (.slice (some ⟨w.heap.size, 0, none⟩) n n)) w') :
   wpList Tryz.prog ops Q ({ dst := d, op := .makeSlice 61 (.tmp l) (.tmp l), type := ty, pos := pos, after := af, guard := none } :: rest) a w := by
 refine wpList_plain rfl fun _ hK => ?_
 have hi := infoBs
 cases hq : Tryz.prog.info? 66 with
 | none => rw [hq] at hi; simp at hi
 | some i =>
   rw [hq] at hi
   simp only [Option.map_some, Option.some.injEq, Prod.mk.injEq] at hi
   have hr := run_make (P := Tryz.prog) (w := w) 61 66 i (.agg #[.bool false, .slice none 0 0]) undBs hq hi.1 .i64 .i64 (n : Int) (n : Int) (by omega) (by omega) (by rw [hi.2.2]; omega) (by omega)
   rw [hi.2.1, Int.toNat_natCast, made_zeros] at hr
   unfold Oper.wp execOp
   simp only [hl, Sem.run_bind, Sem.run_pure, Result.andThen_ok, hr]
   refine hK _ _ (h _ ⟨flat2 n, ⟨by rw [flat2_len, List.length_replicate], .inr ⟨w.heap.size, n, _, by rw [List.length_replicate], Nat.le_refl _, heap_alloc_new w _, by rw [List.length_replicate]; exact Nat.le_refl _, by unfold maxLen; omega, flat2_len n, ?_⟩⟩, fun k hk => ?_⟩ (Up.alloc _ _))
   ·rw [List.length_replicate]
    exact List.take_of_length_le (by rw [flat2_len]; exact Nat.le_refl _)
   ·rw [List.length_replicate] at hk
    have e : zth (List.replicate n (0 : Int)) k = 0 := by rw [zth_get (by rw [List.length_replicate]; exact hk)]; simp
    rw [e]
    exact ⟨false, none, 0, 0, by dsimp only; rw [flat2_get _ _ (by omega), if_pos (by omega)], by dsimp only; rw [flat2_get _ _ (by omega), if_neg (by omega)], big_zero _⟩
theorem Big.grown {w w' : World} {row : Option Nat} {v : Value} {z : Int} (h : Big w v z) (hg : w.grownBy w' row) (hr : ∀ k, row = some k -> ∃ C, Blk w k 66 C) : Big w' v z := by
 obtain ⟨a, c, h1, a2, c2, h2, h3, h4⟩ := h
 refine ⟨a, c, h1, a2, c2, h2, h3, fun h0 => ?_⟩
 obtain ⟨b, E, h5, h6, h7⟩ := h4 h0
 refine ⟨b, E, h5, ?_, h7⟩
 unfold Blk
 rw [hg.block b h6.lt ?_]
 ·exact h6
 ·intro e
  obtain ⟨C, hC⟩ := hr b e.symm
  unfold Blk at hC h6
  rw [hC] at h6
  simp at h6
theorem appB {ops : Array Oper} {rest : List Oper} {Q : Exit -> Act -> World -> Prop} {a : Act} {w : World} {d : Option Tmp} {s u : Operand} {ty : TypeId} {pos : String} {af : Array Edge} {base g c : Nat} {v : Value} {l : List Int} {b : Bool} {p : Option Addr} {m n : Nat} {z : Int}
   (hs : a.eval s = v) (hu : a.eval u = .slice (some ⟨g, 0, none⟩) 1 c) (hown : OwnB w base v l) (hV : w.rangeAt g 0 [.bool b, .slice p m n]) (hb : Big w (.agg #[.bool b, .slice p m n]) z) (hbase : base <= w.heap.size) (hl : l.length < 1000000)
   (h : ∀ v' w', OwnB w' base v' (l ++ [z]) -> w.grownBy w' v.ownBlock -> Below base w w' -> wpList Tryz.prog ops Q rest (a.put d v') w') :
   wpList Tryz.prog ops Q ({ dst := d, op := .call { callee := .builtin .append, args := #[s, u], argTypes := #[61, 61] }, type := ty, pos := pos, after := af, guard := none } :: rest) a w := by
 obtain ⟨i0, hi0, he⟩ := Option.map_eq_some_iff.1 infoBs
 simp only [Prod.mk.injEq] at he
 obtain ⟨xs, hx, hE⟩ := hown
 have hlt := World.ownsRow.lt hx
 have hrow : ∀ k, v.ownBlock = some k -> ∃ C, Blk w k 66 C := by
  intro k hk
  obtain ⟨_, ⟨rfl, _⟩ | ⟨g', cap, cur, rfl, _, hB, _⟩⟩ := hx
  ·simp [Value.ownBlock] at hk
  ·simp [Value.ownBlock] at hk; subst hk; exact ⟨cur, hB⟩
 have hxl : xs.length = l.length * 2 := hx.1
 refine wpList_append_own w rfl s u 61 rfl base 66 i0 _ 2 32 undBs hi0 he.1 he.2.1 he.2.2 rfl (by decide) v l.length xs hs hx ⟨g, 0, none⟩ 1 c [.bool b, .slice p m n] hu rfl (fun j y hy => by rw [Addr.add_mid]; exact hV j y hy) (by simp [Value.oneCell']) (by unfold maxLen; omega) (by omega) hbase ?_
 intro v' w' h1 h2 _
 refine h v' w' ⟨xs ++ [.bool b, .slice p m n], by rw [List.length_append]; exact h1, fun i hi => ?_⟩ h2 ⟨h2.os, h2.tape, h2.output, h2.size, fun k hk => h2.block k (by omega) fun e => ?_⟩
 ·rw [List.length_append, List.length_singleton] at hi
  by_cases e : i < l.length
  ·obtain ⟨b', a', n', c', h3, h4, h5⟩ := hE i e
   have ez : zth (l ++ [z]) i = zth l i := by unfold zth; rw [List.getD_eq_getElem?_getD, List.getD_eq_getElem?_getD, List.getElem?_append_left e]
   rw [ez]
   exact ⟨b', a', n', c', by dsimp only at h3 ⊢; rw [List.getElem?_append_left (by omega)]; exact h3, by dsimp only at h4 ⊢; rw [List.getElem?_append_left (by omega)]; exact h4, h5.grown h2 hrow⟩
  ·obtain rfl : i = l.length := by omega
   have ez : zth (l ++ [z]) l.length = z := by unfold zth; rw [List.getD_eq_getElem?_getD, List.getElem?_append_right (Nat.le_refl _), Nat.sub_self]; rfl
   rw [ez]
   exact ⟨b, p, m, n, by dsimp only; rw [List.getElem?_append_right (by omega), hxl, Nat.sub_self]; rfl, by dsimp only; rw [List.getElem?_append_right (by omega), hxl, show l.length * 2 + 1 - l.length * 2 = 1 by omega]; rfl, hb.grown h2 hrow⟩
 ·have := hlt k e.symm
  omega
def tA (n : Nat) (l x : List Int) (i j : Nat) : List Int := mk n fun q => if q < i then tmS n l x q n else if q = i then tmS n l x i j else 0
theorem tA_len (n : Nat) (l x : List Int) (i j : Nat) : (tA n l x i j).length = n := mk_len _ _
theorem tA_zero (n : Nat) (l x : List Int) : tA n l x 0 0 = List.replicate n 0 := by
 refine zth_ext (by rw [tA_len, List.length_replicate]) fun q hq => ?_
 rw [tA_len] at hq
 unfold tA
 rw [mk_at hq, if_neg (by omega), zth_get (by rw [List.length_replicate]; exact hq), List.getElem_replicate]
 split <;> rfl
theorem tA_row (n : Nat) (l x : List Int) (i : Nat) : tA n l x i n = tA n l x (i + 1) 0 := by
 refine zth_ext (by rw [tA_len, tA_len]) fun q hq => ?_
 rw [tA_len] at hq
 unfold tA
 rw [mk_at hq, mk_at hq]
 by_cases h1 : q < i
 ·rw [if_pos h1, if_pos (by omega)]
 ·rw [if_neg h1]
  by_cases h2 : q = i
  ·rw [if_pos h2, if_pos (by omega), h2]
  ·rw [if_neg h2, if_neg (by omega)]
   split <;> rfl
theorem tA_all (n : Nat) (l x : List Int) : tA n l x n 0 = tmL n l x := by
 refine zth_ext (by rw [tA_len]; exact (mk_len _ _).symm) fun q hq => ?_
 rw [tA_len] at hq
 unfold tA tmL
 rw [mk_at hq, mk_at hq, if_pos hq]
theorem tA_at (n : Nat) (l x : List Int) {i : Nat} (j : Nat) (hi : i < n) : zth (tA n l x i j) i = tmS n l x i j := by
 unfold tA
 rw [mk_at hi, if_neg (by omega), if_pos rfl]
theorem tA_set (n : Nat) (l x : List Int) {i : Nat} (j k : Nat) (_ : i < n) : (tA n l x i j).set i (tmS n l x i k) = tA n l x i k := by
 refine zth_ext (by rw [List.length_set, tA_len, tA_len]) fun q hq => ?_
 rw [List.length_set, tA_len] at hq
 have e : zth ((tA n l x i j).set i (tmS n l x i k)) q = if i = q then tmS n l x i k else zth (tA n l x i j) q := by
  rw [zth_get (by rw [List.length_set, tA_len]; exact hq), List.getElem_set]
  split
  ·rfl
  ·rw [zth_get (by rw [tA_len]; exact hq)]
 rw [e]
 unfold tA
 rw [mk_at hq, mk_at hq]
 by_cases h1 : i = q
 ·subst h1; rw [if_pos rfl, if_neg (by omega), if_pos rfl]
 ·rw [if_neg h1, if_neg (show ¬ q = i by omega)]
  rw [if_neg (show ¬ q = i by omega)]
def RWidesPost (w : World) (l : List Int) (e : Int) (r : Ending) (w' : World) : Prop := ∃ z, r = .returned (.tuple #[z, .int .i64 e]) /\ Up w w' /\ Bv w' z l
theorem bv_nil (w : World) : Bv w (.slice none 0 0) [] := .inl ⟨rfl, none, 0, rfl⟩
set_option maxHeartbeats 8000000 in
theorem rtimes_w {v xv : Value} {N : Int} {l x : List Int} {w : World} (hm : Sm w v N l) (hh : Vw w xv x) (hI : In64 x) (hh3 : x.length <= 1000) :
   Calls Tryz.prog 22 #[v, xv] w (RWidesPost w (tmR N l x) (tmC N l x)) := by
 have HR := hid (fun w' (hu : Up w w') => rright_any (hm.up hu))
 have HSm := hid hm
 obtain ⟨s, rfl, hV, hN, hl, hlen⟩ := hm
 obtain ⟨p, cap, rfl, hcap, hc⟩ := hV
 have HH := hid hh
 obtain ⟨q, cq, rfl, _⟩ := hh
 obtain ⟨W0, hW0⟩ : ∃ W0, w.alloc (.cells #[.int .i64 N, .slice p l.length cap] 24) = W0 := ⟨_, rfl⟩
 have hB : Blk W0 w.heap.size 24 #[.int .i64 N, .slice p l.length cap] := by rw [<- hW0]; exact Blk.new _ _ rfl
 have hU : Up w W0 := by rw [<- hW0]; exact Up.alloc _ _
 cases hR : rt N l with
 | false =>
   have e : tmC N l x = 23 := by unfold tmC; rw [hR]; rfl
   have e2 : tmR N l x = [] := by unfold tmR; rw [e]; rfl
   rw [e, e2]
   rw [hR] at HR
   clear e e2 hR hc hl hN hI
   go_enter Tryz.func22, Tryz.ntmps22
   go_wp2_with (first
    | ((with_reducible apply ldM_P); exact rfl; exact rfl; exact hB; exact rfl)
    | (go_at_call 33; (with_reducible refine (HR.out _ hU).mono ?_); rintro r w1 ⟨rfl, hu1⟩))
   go_ret2
   exact ⟨_, rfl, hU.trans hu1, bv_nil _⟩
 | true =>
   rw [hR] at HR
   by_cases hn0 : (x.length : Int) = N
   ·obtain ⟨n, rfl⟩ : ∃ n : Nat, N = (n : Int) := ⟨x.length, hn0.symm⟩
    have hxn : x.length = n := by omega
    obtain ⟨_, n8, htri, _⟩ := rt_spec hR
    have e : tmC n l x = 0 := by unfold tmC; rw [hR, decide_eq_true hn0]; rfl
    have e2 : tmR n l x = tmL n l x := by unfold tmR; rw [e, if_pos rfl]; rfl
    rw [e, e2]
    have d3 : ((x.length : Int) != (n : Int)) = false := by rw [hn0]; simp
    have HAT := hid (fun (i j : Nat) (hi : i < n) (hj : j < n) w' (hu : Up w w') => rat_ent (i : Int) (j : Int) (HSm.out.up hu) hR (show rng (n : Int) i j = true from decide_eq_true (by omega)))
    have HS := hid (fun i k (hi : i < n) (hk : k <= n) => tmS_bp hR hI hxn hi hk (by omega))
    have HEB := hid (fun (i j : Nat) (hi : i < n) (hj : j < n) => show I64 (ent n l i j) from by have := ent_fit hR hi hj; unfold I64; omega)
    have HI64 := hid hI
    have hn8 : n <= 8 := by omega
    clear e e2 hR hc hl hN hI hn0 htri n8
    go_enter Tryz.func22, Tryz.ntmps22
    go_wp2_with (first
     | ((with_reducible apply ldM_P); exact rfl; exact rfl; exact hB; exact rfl)
     | (go_at_call 33; (with_reducible refine (HR.out _ hU).mono ?_); rintro r w1 ⟨rfl, hu1⟩; replace hB := hB.up hu1; replace hU := hU.trans hu1; have hc0 := hB.cell 0 rfl)
     | ((with_reducible apply mkBs (n := n)); exact rfl; (focus omega); rintro w2 hO2 hu2))
    rw [<- tA_zero n l x] at hO2
    obtain ⟨wS, hwS⟩ : ∃ y, w1 = y := ⟨_, rfl⟩
    rw [hwS] at hO2 hu2 hB hU ⊢
    clear hwS hc0 hu1 hW0
    obtain ⟨bO, hbO⟩ : ∃ y, wS.heap.size = y := ⟨_, rfl⟩
    rw [hbO] at hO2 ⊢
    go_loopg [7] n (fun g ti wr => ∃ i : Nat, i <= n /\ n - i <= g /\ ti = .int .i64 (i : Nat) /\ OwnB wr bO (.slice (some ⟨bO, 0, none⟩) n n) (tA n l x i 0) /\ Up wS wr)
    case atStart => exact ⟨0, Nat.zero_le _, by omega, rfl, hO2, hu2⟩
    case round =>
     clear hO2 hu2
     obtain ⟨i, hi, hig, rfl, hO, hu⟩ := hrel
     have hc0 := (hB.up hu).cell 0 rfl
     by_cases hlt : i < n
     ·have e1 : IntKind.i64.wrap ((i : Int) + 1) = (i : Int) + 1 := IntWalk.i64_in _ (by omega)
      go_wp2_with fail
      go_loopg [8] n (fun g tj wr => ∃ j : Nat, j <= n /\ n - j <= g /\ tj = .int .i64 (j : Nat) /\ OwnB wr bO (.slice (some ⟨bO, 0, none⟩) n n) (tA n l x i j) /\ Up wS wr)
      case atStart => exact ⟨0, Nat.zero_le _, by omega, rfl, hO, hu⟩
      case round =>
       clear hO hu hc0
       obtain ⟨j, hj, hjg, rfl, hO, hu⟩ := hrel
       have hBr := hB.up hu
       have hc0 := hBr.cell 0 rfl
       by_cases hjlt : j < n
       ·have e2 : IntKind.i64.wrap ((j : Int) + 1) = (j : Int) + 1 := IntWalk.i64_in _ (by omega)
        have hjx : j < x.length := by omega
        obtain ⟨q', cq', xq, _, hcq⟩ := HH.out
        injection xq with y1 y2 y3
        subst y1 y3
        obtain ⟨adx, rfl, -⟩ := hcq j hjx
        have HAd := hid (fun w' (hu : Up w w') => (show w'.cell? (adx.add j) = some (.int .i64 (zth x j)) from by obtain ⟨a2, z1, z2⟩ := hcq j hjx; injection z1 with z1; subst z1; exact hu.cellEq z2))
        have hlA := tA_len n l x i j
        obtain ⟨g, cp, C, hv, hbg, hBC, -, -, -, hE⟩ := hO.open (by omega)
        injection hv with x1 x2 x3
        injection x1 with x1
        injection x1 with x1
        subst x1
        obtain ⟨b0, p0, m0, c0, h1, h2, h3⟩ := hE i (by omega)
        rw [tA_at n l x j hlt] at h3
        have HRg := hid (fun w' (hB : Blk w' bO 66 C) => bigAt_range hB h1 h2)
        have hS1 := HS.out i j hlt hj
        have hS2 := HS.out i (j + 1) hlt hjlt
        have hei := HEB.out i j hlt hjlt
        have hxj := HI64.out j hjx
        have hpb : (ent n l i j * zth x j).natAbs < bp 2 := mul_bp1 (i64_bp hei) (i64_bp hxj)
        have HATi := hid (HAT.out i j hlt hjlt)
        have HO1 := hid (fun w => of_big (ent n l i j) hei.1 hei.2 w)
        have HO2 := hid (fun w => of_big (zth x j) hxj.1 hxj.2 w)
        have HM := hid (fun (va vb : Value) (w : World) (ha : Big w va (ent n l i j)) (hb : Big w vb (zth x j)) => mul_big ha hb (nl_bp (by omega) (i64_bp hei)) (nl_bp (by omega) (i64_bp hxj)))
        have HA := hid (fun (va vb : Value) (w : World) (ha : Big w va (tmS n l x i j)) (hb : Big w vb (ent n l i j * zth x j)) => add_big ha hb (nl_bp (by omega) hS1) (nl_bp (by omega) hpb))
        have HSet := hid (tA_set n l x j (j + 1) hlt)
        clear hcq hE h1 h2 hS1 hS2 hei hxj hpb y2 x2 x3
        obtain ⟨S2, hS29⟩ : ∃ y, tmS n l x i (j + 1) = y := ⟨_, rfl⟩
        have hS28 : tmS n l x i j + ent n l i j * zth x j = S2 := hS29
        have HS2 := hid hS29
        rw [hS28] at HA
        rw [hS29] at HSet
        clear hS29 hS28
        generalize tmS n l x i j = S1 at *
        obtain ⟨eij, heij⟩ : ∃ y, ent n l i j = y := ⟨_, rfl⟩
        rw [heij] at HATi HO1 HM HA
        clear heij
        generalize zth x j = xj at *
        go_wp2_with fail
        refine wp_region_sp (n := 54) 19 [34, 35, 36, 37, 38, 39, 40, 41, 42, 43, 44, 45, 46, 47, 48, 49, 50, 51, 52] [SP.is (.slice (some ⟨bO, 0, none⟩) n n), SP.is (.int .i64 (i : Nat)), SP.is (.slice (some ⟨bO, 0, none⟩) n n), SP.is (.int .i64 (i : Nat)), SP.is (.pointer (some ⟨bO, i * 2, none⟩)), SP.is (.agg #[.bool b0, .slice p0 m0 c0]), SP.is (.agg #[.int .i64 (n : Nat), .slice p l.length cap]), SP.is (.int .i64 (i : Nat)), SP.is (.int .i64 (j : Nat)), SP.is (.int .i64 eij), SP.of (fun v w1 => Big w1 v eij) (fun _ _ _ h hu => h.up hu), SP.is (.slice (some adx) x.length cq), SP.is (.int .i64 (j : Nat)), SP.is (.pointer (some (adx.add j))), SP.is (.int .i64 xj), SP.of (fun v w1 => Big w1 v xj) (fun _ _ _ h hu => h.up hu), SP.of (fun v w1 => Big w1 v (eij * xj)) (fun _ _ _ h hu => h.up hu), SP.of (fun v w1 => Big w1 v S2) (fun _ _ _ h hu => h.up hu), SP.is (.pointer (some ⟨bO, i * 2, none⟩)), SP.any] (fun wq => Up wr wq /\ Below w.heap.size w wq) (by kernel_rfl) (by rfl) (by kernel_rfl) (by kernel_rfl) (fun _ _ h hu => ⟨(h.1).trans hu, below_up (h.2) hu⟩) ⟨(by first | exact Up.refl _ | assumption), gUp⟩ (fun ev w9 hS9 i o hne hi hev => ?_) (fun gR wE hq hSE huE => ?_)
        ·have ⟨hS1, hSB⟩ := hS9
         have hcC := hev.const
         have hcF := hev.func
         have hcG := hev.global
         rcases i with _ | _ | _ | _ | _ | _ | _ | _ | _ | _ | _ | _ | _ | _ | _ | _ | _ | _ | _ | _ | i
         ·obtain rfl := oI hi
          have e6 := hev.other 6 (by kernel_rfl)
          simp [Act.eval] at e6
          exact lV (.slice (some ⟨bO, 0, none⟩) n n)
         ·obtain rfl := oI hi
          have e7 := hev.other 7 (by kernel_rfl)
          simp [Act.eval] at e7
          exact lV (.int .i64 (i : Nat))
         ·obtain rfl := oI hi
          have e6 := hev.other 6 (by kernel_rfl)
          simp [Act.eval] at e6
          exact lV (.slice (some ⟨bO, 0, none⟩) n n)
         ·obtain rfl := oI hi
          have e7 := hev.other 7 (by kernel_rfl)
          simp [Act.eval] at e7
          exact lV (.int .i64 (i : Nat))
         ·obtain rfl := oI hi
          have e36 : ev (.tmp 36) = (.slice (some ⟨bO, 0, none⟩) n n) := hev.dep 2 36 (by kernel_rfl)
          have e37 : ev (.tmp 37) = (.int .i64 (i : Nat)) := hev.dep 3 37 (by kernel_rfl)
          exact lV (.pointer (some ⟨bO, i * 2, none⟩))
         ·obtain rfl := oI hi
          have e38 : ev (.tmp 38) = (.pointer (some ⟨bO, i * 2, none⟩)) := hev.dep 4 38 (by kernel_rfl)
          exact leavesR_value (run_ldB2 rfl e38 (HRg.out _ (hBC.up hS1))) rfl
         ·obtain rfl := oI hi
          have e2 := hev.other 2 (by kernel_rfl)
          simp [Act.eval] at e2
          exact leavesR_value (run_ldME rfl e2 (hBr.up hS1) rfl) rfl
         ·obtain rfl := oI hi
          have e7 := hev.other 7 (by kernel_rfl)
          simp [Act.eval] at e7
          exact lV (.int .i64 (i : Nat))
         ·obtain rfl := oI hi
          have e8 := hev.other 8 (by kernel_rfl)
          simp [Act.eval] at e8
          exact lV (.int .i64 (j : Nat))
         ·obtain rfl := oI hi
          have e40 : ev (.tmp 40) = (.agg #[.int .i64 (n : Nat), .slice p l.length cap]) := hev.dep 6 40 (by kernel_rfl)
          have e41 : ev (.tmp 41) = (.int .i64 (i : Nat)) := hev.dep 7 41 (by kernel_rfl)
          have e42 : ev (.tmp 42) = (.int .i64 (j : Nat)) := hev.dep 8 42 (by kernel_rfl)
          refine leavesR_call ?_ ((HATi.out _ (hU.trans (hu.trans hS1))).mono fun _ _ h => ⟨h.2, _, h.1, rfl⟩)
          go_simp
         ·obtain rfl := oI hi
          have e43 : ev (.tmp 43) = (.int .i64 eij) := hev.dep 9 43 (by kernel_rfl)
          refine leavesR_call ?_ (HO1.out _)
          go_simp
         ·obtain rfl := oI hi
          have e1 := hev.other 1 (by kernel_rfl)
          simp [Act.eval] at e1
          exact lV (.slice (some adx) x.length cq)
         ·obtain rfl := oI hi
          have e8 := hev.other 8 (by kernel_rfl)
          simp [Act.eval] at e8
          exact lV (.int .i64 (j : Nat))
         ·obtain rfl := oI hi
          have e45 : ev (.tmp 45) = (.slice (some adx) x.length cq) := hev.dep 11 45 (by kernel_rfl)
          have e46 : ev (.tmp 46) = (.int .i64 (j : Nat)) := hev.dep 12 46 (by kernel_rfl)
          exact lV (.pointer (some (adx.add j)))
         ·obtain rfl := oI hi
          have e47 : ev (.tmp 47) = (.pointer (some (adx.add j))) := hev.dep 13 47 (by kernel_rfl)
          have hcx := HAd.out w9 (hU.trans (hu.trans hS1)); exact leavesR_value (u := .int .i64 xj) (by go_simp) rfl
         ·obtain rfl := oI hi
          have e48 : ev (.tmp 48) = (.int .i64 xj) := hev.dep 14 48 (by kernel_rfl)
          refine leavesR_call ?_ (HO2.out _)
          go_simp
         ·obtain rfl := oI hi
          have e44 : (fun v w1 => Big w1 v eij) (ev (.tmp 44)) w9 := hev.dep 10 44 (by kernel_rfl)
          dsimp only at e44
          obtain ⟨v44, hv44⟩ : ∃ v, ev (.tmp 44) = v := ⟨_, rfl⟩
          rw [hv44] at e44
          have e49 : (fun v w1 => Big w1 v xj) (ev (.tmp 49)) w9 := hev.dep 15 49 (by kernel_rfl)
          dsimp only at e49
          obtain ⟨v49, hv49⟩ : ∃ v, ev (.tmp 49) = v := ⟨_, rfl⟩
          rw [hv49] at e49
          refine leavesR_call ?_ (HM.out _ _ _ e44 e49)
          go_simp
         ·obtain rfl := oI hi
          have e39 : ev (.tmp 39) = (.agg #[.bool b0, .slice p0 m0 c0]) := hev.dep 5 39 (by kernel_rfl)
          have e50 : (fun v w1 => Big w1 v (eij * xj)) (ev (.tmp 50)) w9 := hev.dep 16 50 (by kernel_rfl)
          dsimp only at e50
          obtain ⟨v50, hv50⟩ : ∃ v, ev (.tmp 50) = v := ⟨_, rfl⟩
          rw [hv50] at e50
          refine leavesR_call ?_ (HA.out _ _ _ (h3.up hS1) e50)
          go_simp
         ·obtain rfl := oI hi
          have e34 : ev (.tmp 34) = (.slice (some ⟨bO, 0, none⟩) n n) := hev.dep 0 34 (by kernel_rfl)
          have e35 : ev (.tmp 35) = (.int .i64 (i : Nat)) := hev.dep 1 35 (by kernel_rfl)
          exact lV (.pointer (some ⟨bO, i * 2, none⟩))
         ·exact absurd rfl hne
         ·exact absurd (show i + 20 < 20 from (Array.getElem?_eq_some_iff.1 hi).1) (by omega)
        have ⟨hS1, hSB⟩ := hSE
        have q0 : gR 34 = (.slice (some ⟨bO, 0, none⟩) n n) := hq 0 34 (by decide) (by kernel_rfl)
        have q1 : gR 35 = (.int .i64 (i : Nat)) := hq 1 35 (by decide) (by kernel_rfl)
        have q2 : gR 36 = (.slice (some ⟨bO, 0, none⟩) n n) := hq 2 36 (by decide) (by kernel_rfl)
        have q3 : gR 37 = (.int .i64 (i : Nat)) := hq 3 37 (by decide) (by kernel_rfl)
        have q4 : gR 38 = (.pointer (some ⟨bO, i * 2, none⟩)) := hq 4 38 (by decide) (by kernel_rfl)
        have q5 : gR 39 = (.agg #[.bool b0, .slice p0 m0 c0]) := hq 5 39 (by decide) (by kernel_rfl)
        have q6 : gR 40 = (.agg #[.int .i64 (n : Nat), .slice p l.length cap]) := hq 6 40 (by decide) (by kernel_rfl)
        have q7 : gR 41 = (.int .i64 (i : Nat)) := hq 7 41 (by decide) (by kernel_rfl)
        have q8 : gR 42 = (.int .i64 (j : Nat)) := hq 8 42 (by decide) (by kernel_rfl)
        have q9 : gR 43 = (.int .i64 eij) := hq 9 43 (by decide) (by kernel_rfl)
        have q10 : (fun v w1 => Big w1 v eij) (gR 44) wE := hq 10 44 (by decide) (by kernel_rfl)
        dsimp only at q10
        obtain ⟨v44, hv44⟩ : ∃ v, gR 44 = v := ⟨_, rfl⟩
        rw [hv44] at q10
        have q11 : gR 45 = (.slice (some adx) x.length cq) := hq 11 45 (by decide) (by kernel_rfl)
        have q12 : gR 46 = (.int .i64 (j : Nat)) := hq 12 46 (by decide) (by kernel_rfl)
        have q13 : gR 47 = (.pointer (some (adx.add j))) := hq 13 47 (by decide) (by kernel_rfl)
        have q14 : gR 48 = (.int .i64 xj) := hq 14 48 (by decide) (by kernel_rfl)
        have q15 : (fun v w1 => Big w1 v xj) (gR 49) wE := hq 15 49 (by decide) (by kernel_rfl)
        dsimp only at q15
        obtain ⟨v49, hv49⟩ : ∃ v, gR 49 = v := ⟨_, rfl⟩
        rw [hv49] at q15
        have q16 : (fun v w1 => Big w1 v (eij * xj)) (gR 50) wE := hq 16 50 (by decide) (by kernel_rfl)
        dsimp only at q16
        obtain ⟨v50, hv50⟩ : ∃ v, gR 50 = v := ⟨_, rfl⟩
        rw [hv50] at q16
        have q17 : (fun v w1 => Big w1 v S2) (gR 51) wE := hq 17 51 (by decide) (by kernel_rfl)
        dsimp only at q17
        obtain ⟨v51, hv51⟩ : ∃ v, gR 51 = v := ⟨_, rfl⟩
        rw [hv51] at q17
        have q18 : gR 52 = (.pointer (some ⟨bO, i * 2, none⟩)) := hq 18 52 (by decide) (by kernel_rfl)
        refine ⟨fun h => absurd h (by decide), fun o ho => ?_⟩
        obtain rfl := oI ho
        simp only [putL, List.map_cons, List.map_nil, q0, q1, q2, q3, q4, q5, q6, q7, q8, q9, hv44, q11, q12, q13, q14, hv49, hv50, hv51, q18, Act.put, pu1, pu2, pu3]
        clear hq hSE q0 q1 q2 q3 q4 q5 q6 q7 q8 q9 q11 q12 q13 q14 q18
        obtain ⟨bb, ba, bn, bc, rfl⟩ := q17.shape
        have hset := (hO.up hS1).set (hBC.up hS1) (i := i) (by rw [tA_len]; exact hlt) q17
        rw [HSet.out] at hset
        refine wp_stB2 _ _ rfl rfl rfl (hBC.up hS1) hset.2 ?_
        have hU9 := below_setRow (hu.trans hS1) (show wS.heap.size <= bO by omega) (splB C (i * 2) [.bool bb, .slice ba bn bc])
        obtain ⟨wK, hwK⟩ : ∃ y, wE.setRow bO (splB C (i * 2) [.bool bb, .slice ba bn bc]) = y := ⟨_, rfl⟩
        have hO9 := hset.1
        rw [hwK] at hO9 hU9 ⊢
        clear hwK hset q17 q16 q15 q10 hS1 hSB huE
        go_wp2_with fail
        go_roundg (n - (j + 1))
        case measure => omega
        case rel => exact ⟨j + 1, hjlt, Nat.le_refl _, rfl, hO9, hU9⟩
       ·obtain rfl : j = n := by omega
        rw [tA_row] at hO
        go_wp2_with fail
        go_roundg (j - (i + 1))
        case measure => omega
        case rel => exact ⟨i + 1, hlt, Nat.le_refl _, rfl, hO, hu⟩
     ·obtain rfl : i = n := by omega
      rw [tA_all] at hO
      go_wp2_with fail
      go_ret2
      exact ⟨_, rfl, hU.trans hu, hO.bv⟩
   ·have e : tmC N l x = 23 := by unfold tmC; rw [hR, decide_eq_false hn0]; rfl
    have e2 : tmR N l x = [] := by unfold tmR; rw [e]; rfl
    rw [e, e2]
    have d3 : ((x.length : Int) != N) = true := by simpa using hn0
    clear e e2 hR hc hl hN hI hn0
    go_enter Tryz.func22, Tryz.ntmps22
    go_wp2_with (first
     | ((with_reducible apply ldM_P); exact rfl; exact rfl; exact hB; exact rfl)
     | (go_at_call 33; (with_reducible refine (HR.out _ hU).mono ?_); rintro r w1 ⟨rfl, hu1⟩; replace hB := hB.up hu1; have hc0 := hB.cell 0 rfl))
    go_ret2
    exact ⟨_, rfl, hU.trans hu1, bv_nil _⟩
end Go.Proofs.YtahifcannoekhaaGreatDoor
