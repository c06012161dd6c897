/-
  Powers of two, their limbs and bits; the end of a law's proof where the world only grew below a height.
-/
import Derived.Test.YtlkolfnklbldcaaKnown
import Derived.ChangeSame
namespace Go.Proofs.Ytlkolfnklbldcaa
open Go Go.RowKit Go.ChangeShapes

theorem limb_pow (i k : Nat) : limb (2 ^ i) k = if k = i / 64 then 2 ^ (i % 64) else 0 := by
  unfold limb
  rw [bp_two]
  by_cases h : k = i / 64
  · rw [if_pos h, Nat.pow_div (by omega) (by decide), show i - 64 * k = i % 64 by omega]
    refine Nat.mod_eq_of_lt ?_
    have : 2 ^ (i % 64) < 2 ^ 64 := Nat.pow_lt_pow_right (by decide) (by omega)
    exact this
  · rw [if_neg h]
    by_cases h2 : 64 * k ≤ i
    · rw [Nat.pow_div h2 (by decide), show i - 64 * k = (i - 64 * k - 64) + 64 by omega, Nat.pow_add]
      exact Nat.mul_mod_left (2 ^ (i - 64 * k - 64)) (2 ^ 64)
    · rw [Nat.div_eq_of_lt (Nat.pow_lt_pow_right (by decide) (by omega))]
theorem hb_pow (i : Nat) (h : i = 1023) : hb = 2 ^ i := by
  have h1 := bp16
  rw [bp_two, show 64 * 16 = i + 1 by omega, Nat.pow_succ] at h1
  omega
theorem blen_pow (i : Nat) : blen (2 ^ i) = i + 1 := blen_of (Nat.le_refl _) (Nat.pow_lt_pow_right (by decide) (by omega))
theorem pow_in {i : Nat} : InR ((2 ^ i : Nat) : Int) ↔ i < 1023 := by
  obtain ⟨c, hc⟩ : ∃ c, c = 1023 := ⟨_, rfl⟩
  constructor
  · intro h
    have h1 := h.out.2
    rw [hb_pow c hc] at h1
    have h2 := Int.ofNat_lt.1 h1
    have := (Nat.pow_lt_pow_iff_right (by decide)).1 h2
    omega
  · intro h
    have h1 : 2 ^ i < 2 ^ c := Nat.pow_lt_pow_right (by decide) (by omega)
    rw [← hb_pow c hc] at h1
    generalize 2 ^ i = q at *
    exact InR.mk' (by omega)
theorem enc_pow {i : Nat} (h : i < 1023) : enc ((2 ^ i : Nat) : Int) = 2 ^ i := by
  have h0 := pow_in.2 h
  generalize 2 ^ i = q at *
  have h1 := (enc_nn h0 (by omega)).1
  omega
theorem cells_pow {i : Nat} (_ : i < 1024) : cells 16 (upd (fun _ => 0) (i / 64) (2 ^ (i % 64))) = cells 16 (limb (2 ^ i)) :=
  cells_congr fun k _ => by rw [limb_pow]; unfold upd; rfl
theorem least_in : InR (-(hb : Int)) := InR.mk' (by have := hb_pos; omega)
theorem enc_least : enc (-(hb : Int)) = hb := by
  have h := (enc_neg least_in (by have := hb_pos; omega)).1
  have := bp16
  omega
theorem zeros_get (k : Nat) (_ : k < 16) : limb hb k = upd (fun _ => 0) 15 9223372036854775808 k := by
  obtain ⟨c, hc⟩ : ∃ c, c = 1023 := ⟨_, rfl⟩
  rw [hb_pow c hc, limb_pow]
  subst hc
  unfold upd
  rfl

section
variable {H : Type} {enc : TypeId × Value → H} {P : Program}
theorem post_of_below {f : Func} {s : ChangeSpec} {apart fresh handsOn again : Bool} {W W' : World} {args : Array Value} {v : Value} {ds gs : List (DataW H)} {before pa pv : List MemPlace}
    (hW : DataW.Whole enc P f.params.toList s.vars apart W args.toList ds gs before)
    (hres : ∀ (b : Nat) (sp : Nat → Bool) (hd : Bool), DataW.TrodAll enc P W' b sp hd f.resultTypes.toList (v.resultList f.resultTypes.size) (s.fn H (ds ++ gs)).results [])
    (hargs : ∀ sp : Nat → Bool, (∀ p ∈ before, sp p.block = true) → DataW.TrodAll enc P W' 0 sp true f.params.toList args.toList (s.fn H (ds ++ gs)).args pa)
    (hvars : ∀ sp : Nat → Bool, (∀ p ∈ before, sp p.block = true) → DataW.TrodVars enc P W' sp s.vars (s.fn H (ds ++ gs)).vars pv)
    (hps : before = pa ++ pv) (hb' : Below W.heap.size W W')
    (hok : ∀ (j : Nat) (t : TypeId) (r : Value), f.resultTypes[j]? = some t → (v.resultList f.resultTypes.size)[j]? = some r → Value.okWide P W' .any 0 t r) :
    s.post enc P f apart fresh handsOn again W args v W' := by
  have hlt : ∀ p ∈ before, p.block < W.heap.size := fun p hp => hW.lt p hp
  have hold : ∀ p ∈ before, (fun b => decide (b < W.heap.size)) p.block = true := fun p hp => by simpa using hW.lt p hp
  refine ⟨ds, gs, before, [], pa, pv, hW, hres _ _ _, hargs _ hold, hvars _ hold, World.keptBut_mono (fun p hp => ⟨hp, ?_⟩) (hb'.frame (· ∈ before)), fun _ => ?_⟩
  · rw [hps, List.mem_append] at hp
    exact Or.inr hp
  · obtain ⟨_, _, _, _, _, hz, hn⟩ := hW
    refine ⟨hok, _, _, ([] ++ pa) ++ pv, ⟨[] ++ pa, pv, trodAll_append (hargs _ (fun _ _ => rfl)) (hres _ _ _), hvars _ (fun _ _ => rfl), rfl, ?_, ?_⟩, ?_⟩
    · intro b off hp
      have hp' : MemPlace.cell b off ∈ before := by rw [hps]; simpa using hp
      rw [hb'.frozen (p := ⟨b, off, none⟩) (hlt _ hp')]
      exact hz b off hp'
    · intro ha
      have := hn ha
      rw [hps] at this
      simpa using this
    · intro p hp _
      rw [hps]
      simpa using hp
end
end Go.Proofs.Ytlkolfnklbldcaa
