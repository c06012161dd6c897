/-
  Checksums: the sum of any bytes, wherever they are parted (CrcTells).
-/
import Derived.Test.YtmpikkhfeogdcaaCr4
namespace Go.Proofs.Ytmpikkhfeogdcaa
open Go Go.RowKit
set_option maxRecDepth 100000

theorem crW_lt {w : World} {v : Value} {l : List Nat} (h : Bw w v l) : crL 65535 l < 65536 := crL_lt (by decide) h.lt
theorem Bw.cap {w : World} {p : Option Addr} {n cap : Nat} {l : List Nat} (h : Bw w (.slice p n cap) l) : n ≤ cap := by
  obtain ⟨p', cap', e, hcap, _⟩ := h
  injection e with e1 e2 e3
  omega
theorem Bw.one {w : World} {g : Nat} {t : TypeId} {fr : Nat × Nat} {c : Nat} (hB : w.heap[g]? = some (.cells #[.int .u8 (c : Int)] t fr)) (hc : c < 256) : Bw w (.slice (some ⟨g, 0, none⟩) 1 1) [c] :=
  Bw.mk (l := [c]) hB (by simp) (by simp) (by simp; exact hc) fun i hi => by
    have h0 : i = 0 := by simp at hi; exact hi
    subst h0
    rfl
theorem flat_cut (l : List Nat) (i : Nat) : [l.take i, [], l.drop i].flatten = l := by simp
theorem flat_more (l : List Nat) (c : Nat) : crL 65535 [l, [c]].flatten = crM (crL 65535 l) c := by
  rw [show [l, [c]].flatten = l ++ [c] by simp, crL_app, crL_cons, crL_nil]
end Go.Proofs.Ytmpikkhfeogdcaa
