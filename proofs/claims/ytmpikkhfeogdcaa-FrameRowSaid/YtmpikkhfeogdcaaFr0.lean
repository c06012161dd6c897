/-
  Plain: frames among bytes (for layer 11): what bytes begin with, which payloads they have, how many are bad, what is left; in pieces, behind noise, one behind another.
-/
import Derived.Test.YtmpikkhfeogdcaaCr0
namespace Go.Proofs.Ytmpikkhfeogdcaa

/-- The sum of a payload, and its frame. -/
def frS (x : List Nat) : Nat := crL 65535 (x.length :: x)
def fr (x : List Nat) : List Nat := 170 :: 85 :: x.length :: (x ++ [frS x / 256, frS x % 256])
/-- Are a frame's last two bytes its sum? -/
def soB (f : List Nat) : Bool := crL 65535 ((f.take (f.length - 2)).drop 2) == f.getD (f.length - 2) 0 * 256 + f.getD (f.length - 1) 0
/-- What bytes begin with (0 noise, 1 a bad one, 2 a beginning, 3 a frame), and how many go. -/
def jd (l : List Nat) : Nat × Nat :=
  if l.getD 0 0 ≠ 170 ∨ (1 < l.length ∧ l.getD 1 0 ≠ 85) then (0, 1)
  else if l.length < 3 then (2, 0)
  else if ¬ (1 ≤ l.getD 2 0 ∧ l.getD 2 0 ≤ 40) then (1, 1)
  else if l.length < l.getD 2 0 + 5 then (2, 0)
  else if soB (l.take (l.getD 2 0 + 5)) = false then (1, 1)
  else (3, l.getD 2 0 + 5)
/-- The payloads, how many are bad, what is left. -/
def pzN (l : List Nat) (r : List (List Nat) × Nat × List Nat) : List (List Nat) × Nat × List Nat :=
  (if (jd l).1 = 3 then (l.take ((jd l).2 - 2)).drop 3 :: r.1 else r.1, if (jd l).1 = 1 then r.2.1 + 1 else r.2.1, r.2.2)
def pzF : Nat → List Nat → List (List Nat) × Nat × List Nat
  | 0, l => ([], 0, l)
  | k + 1, l => if l.length = 0 then ([], 0, l) else if (jd l).1 = 2 then ([], 0, l) else pzN l (pzF k (l.drop (jd l).2))
def pz (l : List Nat) : List (List Nat) × Nat × List Nat := pzF l.length l

theorem jd_is (l : List Nat) : ((jd l).1 = 0 ∨ (jd l).1 = 1) ∧ (jd l).2 = 1 ∨ (jd l).1 = 2 ∨ ((jd l).1 = 3 ∧ 6 ≤ (jd l).2 ∧ (jd l).2 ≤ 45 ∧ (jd l).2 ≤ l.length) := by
  unfold jd
  by_cases h1 : l.getD 0 0 ≠ 170 ∨ (1 < l.length ∧ l.getD 1 0 ≠ 85)
  · rw [if_pos h1]; exact .inl ⟨.inl rfl, rfl⟩
  · rw [if_neg h1]
    by_cases h2 : l.length < 3
    · rw [if_pos h2]; exact .inr (.inl rfl)
    · rw [if_neg h2]
      by_cases h3 : ¬ (1 ≤ l.getD 2 0 ∧ l.getD 2 0 ≤ 40)
      · rw [if_pos h3]; exact .inl ⟨.inr rfl, rfl⟩
      · rw [if_neg h3]
        by_cases h4 : l.length < l.getD 2 0 + 5
        · rw [if_pos h4]; exact .inr (.inl rfl)
        · rw [if_neg h4]
          by_cases h5 : soB (l.take (l.getD 2 0 + 5)) = false
          · rw [if_pos h5]; exact .inl ⟨.inr rfl, rfl⟩
          · rw [if_neg h5]; exact .inr (.inr ⟨rfl, by dsimp only; omega, by dsimp only; omega, by dsimp only; omega⟩)
theorem jd_le {l : List Nat} (h0 : l.length ≠ 0) (h2 : (jd l).1 ≠ 2) : 1 ≤ (jd l).2 ∧ (jd l).2 ≤ l.length := by
  rcases jd_is l with h | h | h
  · omega
  · exact absurd h h2
  · omega
theorem pzF_more : ∀ (k : Nat) (l : List Nat), l.length ≤ k → pzF (k + 1) l = pzF k l
  | 0, l, h => by
    show (if l.length = 0 then ([], 0, l) else _) = _
    rw [if_pos (by omega)]; rfl
  | k + 1, l, h => by
    show (if l.length = 0 then ([], 0, l) else if (jd l).1 = 2 then ([], 0, l) else pzN l (pzF (k + 1) (l.drop (jd l).2))) = (if l.length = 0 then ([], 0, l) else if (jd l).1 = 2 then ([], 0, l) else pzN l (pzF k (l.drop (jd l).2)))
    by_cases h0 : l.length = 0
    · rw [if_pos h0, if_pos h0]
    · rw [if_neg h0, if_neg h0]
      by_cases h2 : (jd l).1 = 2
      · rw [if_pos h2, if_pos h2]
      · rw [if_neg h2, if_neg h2, pzF_more k _ (by rw [List.length_drop]; have := jd_le h0 h2; omega)]
theorem pzF_is {l : List Nat} : ∀ (k : Nat), l.length ≤ k → pzF k l = pz l
  | 0, h => by unfold pz; rw [show l.length = 0 by omega]
  | k + 1, h => by
    by_cases hk : l.length = k + 1
    · unfold pz; rw [hk]
    · rw [pzF_more k l (by omega), pzF_is k (by omega)]
theorem pz_nil : pz [] = ([], 0, []) := rfl
theorem pz_begun {l : List Nat} (h : (jd l).1 = 2) : pz l = ([], 0, l) := by
  unfold pz
  cases hk : l.length with
  | zero => rfl
  | succ k =>
    show (if l.length = 0 then ([], 0, l) else if (jd l).1 = 2 then ([], 0, l) else _) = _
    rw [if_neg (by omega), if_pos h]
theorem pz_step {l : List Nat} (h0 : l.length ≠ 0) (h2 : (jd l).1 ≠ 2) : pz l = pzN l (pz (l.drop (jd l).2)) := by
  have hl := jd_le h0 h2
  rw [← pzF_is (l.length) (Nat.le_refl _)]
  cases hk : l.length with
  | zero => omega
  | succ k =>
    show (if l.length = 0 then ([], 0, l) else if (jd l).1 = 2 then ([], 0, l) else pzN l (pzF k (l.drop (jd l).2))) = _
    rw [if_neg (by omega), if_neg h2, pzF_is k (by rw [List.length_drop]; omega)]
theorem getD_app {l m : List Nat} {i : Nat} (h : i < l.length) : (l ++ m).getD i 0 = l.getD i 0 := by
  rw [List.getD_eq_getElem?_getD, List.getD_eq_getElem?_getD, List.getElem?_append_left h]
theorem jd_app {l : List Nat} (m : List Nat) (h0 : l.length ≠ 0) (h2 : (jd l).1 ≠ 2) : jd (l ++ m) = jd l := by
  unfold jd at h2 ⊢
  rw [getD_app (i := 0) (by omega)]
  by_cases h1 : l.getD 0 0 ≠ 170 ∨ (1 < l.length ∧ l.getD 1 0 ≠ 85)
  · rw [if_pos h1, if_pos ?_]
    rcases h1 with h1 | h1
    · exact .inl h1
    · exact .inr ⟨by rw [List.length_append]; omega, by rw [getD_app h1.1]; exact h1.2⟩
  · rw [if_neg h1] at h2 ⊢
    by_cases h3 : l.length < 3
    · rw [if_pos h3] at h2; exact absurd rfl h2
    · rw [if_neg h3] at h2 ⊢
      rw [getD_app (i := 1) (by omega), getD_app (i := 2) (by omega), if_neg (fun h => h1 (h.imp id fun h => ⟨by omega, h.2⟩)), if_neg (show ¬ (l ++ m).length < 3 by rw [List.length_append]; omega)]
      by_cases h4 : ¬ (1 ≤ l.getD 2 0 ∧ l.getD 2 0 ≤ 40)
      · rw [if_pos h4, if_pos h4]
      · rw [if_neg h4] at h2 ⊢
        rw [if_neg h4]
        by_cases h5 : l.length < l.getD 2 0 + 5
        · rw [if_pos h5] at h2; exact absurd rfl h2
        · rw [if_neg h5, if_neg (show ¬ (l ++ m).length < l.getD 2 0 + 5 by rw [List.length_append]; omega), List.take_append_of_le_length (by omega)]
theorem pzN_app {l m : List Nat} (h0 : l.length ≠ 0) (h2 : (jd l).1 ≠ 2) (r : List (List Nat) × Nat × List Nat) : pzN (l ++ m) r = pzN l r := by
  unfold pzN
  have := jd_le h0 h2
  rw [jd_app m h0 h2, List.take_append_of_le_length (by omega)]
/-- What is left, and what comes behind it, tell what all together tell. -/
theorem pz_app (l m : List Nat) : pz (l ++ m) = ((pz l).1 ++ (pz ((pz l).2.2 ++ m)).1, (pz l).2.1 + (pz ((pz l).2.2 ++ m)).2.1, (pz ((pz l).2.2 ++ m)).2.2) := by
  obtain ⟨n, hn⟩ : ∃ n, l.length = n := ⟨_, rfl⟩
  induction n using Nat.strongRecOn generalizing l with
  | _ n ih =>
    by_cases h0 : l.length = 0
    · obtain rfl := List.length_eq_zero_iff.1 h0
      rw [pz_nil]
      simp
    · by_cases h2 : (jd l).1 = 2
      · rw [pz_begun h2]
        simp
      · have hl := jd_le h0 h2
        have hi := ih _ (show (l.drop (jd l).2).length < n by rw [List.length_drop]; omega) (l.drop (jd l).2) rfl
        rw [pz_step (show (l ++ m).length ≠ 0 by rw [List.length_append]; omega) (by rw [jd_app m h0 h2]; exact h2), pzN_app h0 h2, jd_app m h0 h2, List.drop_append_of_le_length hl.2, hi, pz_step h0 h2]
        unfold pzN
        dsimp only
        by_cases h3 : (jd l).1 = 3
        · rw [if_pos h3, if_pos h3, if_neg (by omega), if_neg (by omega)]
          rfl
        · rw [if_neg h3, if_neg h3]
          by_cases h4 : (jd l).1 = 1
          · rw [if_pos h4, if_pos h4, Nat.add_right_comm]
          · rw [if_neg h4, if_neg h4]
/-- What is left is an end of what came. -/
theorem pz_left (l : List Nat) : ∃ k, k ≤ l.length ∧ (pz l).2.2 = l.drop k := by
  obtain ⟨n, hn⟩ : ∃ n, l.length = n := ⟨_, rfl⟩
  induction n using Nat.strongRecOn generalizing l with
  | _ n ih =>
    by_cases h0 : l.length = 0
    · obtain rfl := List.length_eq_zero_iff.1 h0
      exact ⟨0, Nat.zero_le _, rfl⟩
    · by_cases h2 : (jd l).1 = 2
      · rw [pz_begun h2]
        exact ⟨0, Nat.zero_le _, rfl⟩
      · have hl := jd_le h0 h2
        obtain ⟨k, hk, e⟩ := ih _ (show (l.drop (jd l).2).length < n by rw [List.length_drop]; omega) (l.drop (jd l).2) rfl
        rw [pz_step h0 h2]
        exact ⟨(jd l).2 + k, by rw [List.length_drop] at hk; omega, by rw [← List.drop_drop, ← e]; rfl⟩
theorem pz_few (l : List Nat) : (pz l).1.length ≤ l.length ∧ (pz l).2.1 ≤ l.length := by
  obtain ⟨n, hn⟩ : ∃ n, l.length = n := ⟨_, rfl⟩
  induction n using Nat.strongRecOn generalizing l with
  | _ n ih =>
    by_cases h0 : l.length = 0
    · obtain rfl := List.length_eq_zero_iff.1 h0
      rw [pz_nil]
      exact ⟨Nat.zero_le _, Nat.zero_le _⟩
    · by_cases h2 : (jd l).1 = 2
      · rw [pz_begun h2]
        exact ⟨Nat.zero_le _, Nat.zero_le _⟩
      · have hl := jd_le h0 h2
        have hi := ih _ (show (l.drop (jd l).2).length < n by rw [List.length_drop]; omega) (l.drop (jd l).2) rfl
        rw [List.length_drop] at hi
        rw [pz_step h0 h2]
        unfold pzN
        dsimp only
        constructor
        · split
          · rw [List.length_cons]; omega
          · omega
        · split <;> omega

theorem frS_lt {x : List Nat} (hx : ∀ b ∈ x, b < 256) (hl : x.length < 256) : frS x < 65536 := by
  unfold frS
  refine crL_lt (by decide) fun b hb => ?_
  rcases List.mem_cons.1 hb with rfl | hb
  · exact hl
  · exact hx b hb
theorem fr_len (x : List Nat) : (fr x).length = x.length + 5 := by
  unfold fr
  simp
theorem soB_fr {x : List Nat} : soB (fr x) = true := by
  unfold soB
  rw [fr_len]
  have h1 : (fr x).getD (x.length + 5 - 2) 0 = frS x / 256 := by
    rw [List.getD_eq_getElem?_getD, show x.length + 5 - 2 = x.length + 1 + 1 + 1 by omega]
    unfold fr
    rw [List.getElem?_cons_succ, List.getElem?_cons_succ, List.getElem?_cons_succ, List.getElem?_append_right (Nat.le_refl _), Nat.sub_self]
    rfl
  have h2 : (fr x).getD (x.length + 5 - 1) 0 = frS x % 256 := by
    rw [List.getD_eq_getElem?_getD, show x.length + 5 - 1 = x.length + 1 + 1 + 1 + 1 by omega]
    unfold fr
    rw [List.getElem?_cons_succ, List.getElem?_cons_succ, List.getElem?_cons_succ, List.getElem?_append_right (by omega), show x.length + 1 - x.length = 1 by omega]
    rfl
  have h3 : ((fr x).take (x.length + 5 - 2)).drop 2 = x.length :: x := by
    rw [show x.length + 5 - 2 = x.length + 1 + 1 + 1 by omega]
    unfold fr
    rw [List.take_succ_cons, List.take_succ_cons, List.take_succ_cons, List.take_append_of_le_length (Nat.le_refl _), List.take_length]
    rfl
  rw [h1, h2, h3, beq_iff_eq]
  unfold frS
  omega
theorem jd_fr {x : List Nat} (h1 : 1 ≤ x.length) (h40 : x.length ≤ 40) (m : List Nat) : jd (fr x ++ m) = (3, x.length + 5) := by
  have hs : jd (fr x) = (3, x.length + 5) := by
    have e0 : (fr x).getD 0 0 = 170 := rfl
    have e1 : (fr x).getD 1 0 = 85 := rfl
    have e2 : (fr x).getD 2 0 = x.length := rfl
    unfold jd
    rw [e0, e1, e2, fr_len, if_neg (by simp), if_neg (by omega), if_neg (by omega), if_neg (by omega), List.take_of_length_le (by rw [fr_len]; omega), soB_fr, if_neg (by simp)]
  rw [jd_app m (by rw [fr_len]; omega) (by rw [hs]; exact (by decide : (3 : Nat) ≠ 2)), hs]
/-- A frame ahead: its payload comes, and it goes. -/
theorem pz_fr {x : List Nat} (h1 : 1 ≤ x.length) (h40 : x.length ≤ 40) (m : List Nat) : pz (fr x ++ m) = (x :: (pz m).1, (pz m).2.1, (pz m).2.2) := by
  have hj := jd_fr h1 h40 m
  have e1 : (fr x ++ m).drop (x.length + 5) = m := by
    rw [List.drop_append_of_le_length (by rw [fr_len]; omega), List.drop_of_length_le (by rw [fr_len]; omega), List.nil_append]
  have e2 : ((fr x ++ m).take (x.length + 5 - 2)).drop 3 = x := by
    rw [List.take_append_of_le_length (by rw [fr_len]; omega), show x.length + 5 - 2 = x.length + 1 + 1 + 1 by omega]
    unfold fr
    rw [List.take_succ_cons, List.take_succ_cons, List.take_succ_cons, List.take_append_of_le_length (Nat.le_refl _), List.take_length]
    rfl
  rw [pz_step (by rw [List.length_append, fr_len]; omega) (by rw [hj]; exact (by decide : (3 : Nat) ≠ 2))]
  unfold pzN
  rw [hj]
  dsimp only
  rw [if_pos rfl, if_neg (by decide), e1, e2]
theorem pz_one {x : List Nat} (h1 : 1 ≤ x.length) (h40 : x.length ≤ 40) : pz (fr x) = ([x], 0, []) := by
  have := pz_fr h1 h40 []
  rw [List.append_nil, pz_nil] at this
  exact this
/-- A byte that isn't AA goes. -/
theorem pz_byte {a : Nat} (ha : a ≠ 170) (m : List Nat) : pz (a :: m) = pz m := by
  have hj : jd (a :: m) = (0, 1) := by
    unfold jd
    rw [if_pos (.inl ha)]
  rw [pz_step (by simp) (by rw [hj]; decide)]
  unfold pzN
  rw [hj]
  rfl
/-- An AA goes that no 55 follows. -/
theorem pz_aa {c : Nat} (hc : c ≠ 85) (m : List Nat) : pz (170 :: c :: m) = pz (c :: m) := by
  have hj : jd (170 :: c :: m) = (0, 1) := by
    unfold jd
    rw [if_pos (.inr ⟨by simp, hc⟩)]
  rw [pz_step (by simp) (by rw [hj]; decide)]
  unfold pzN
  rw [hj]
  rfl
theorem pz_noise : ∀ (n : List Nat), (∀ b ∈ n, b ≠ 170) → ∀ m, pz (n ++ m) = pz m
  | [], _, m => rfl
  | a :: n, h, m => by
    rw [List.cons_append, pz_byte (h a List.mem_cons_self), pz_noise n fun b hb => h b (List.mem_cons_of_mem _ hb)]
theorem pz_noise_nil {n : List Nat} (h : ∀ b ∈ n, b ≠ 170) : pz n = ([], 0, []) := by
  have := pz_noise n h []
  rw [List.append_nil, pz_nil] at this
  exact this
/-- A length that may not be. -/
theorem pz_bad {n : Nat} (hn : ¬ (1 ≤ n ∧ n ≤ 40)) (m : List Nat) : pz (170 :: 85 :: n :: m) = ((pz (85 :: n :: m)).1, (pz (85 :: n :: m)).2.1 + 1, (pz (85 :: n :: m)).2.2) := by
  have hj : jd (170 :: 85 :: n :: m) = (1, 1) := by
    unfold jd
    rw [show (170 :: 85 :: n :: m).getD 2 0 = n from rfl, if_neg (by simp), if_neg (by simp), if_pos hn]
  rw [pz_step (by simp) (by rw [hj]; decide)]
  unfold pzN
  rw [hj]
  rfl
/-- FrameLengths. -/
theorem pz_lengths {n : Nat} {b : List Nat} (hn : ¬ (1 ≤ n ∧ n ≤ 40)) (h1 : 1 ≤ b.length) (h40 : b.length ≤ 40) : pz (170 :: 85 :: n :: fr b) = ([b], 1, []) := by
  rw [pz_bad hn, pz_byte (by decide)]
  have : pz (n :: fr b) = ([b], 0, []) := by
    by_cases h : n = 170
    · subst h
      have h2 := pz_aa (c := 170) (by decide) (85 :: b.length :: (b ++ [frS b / 256, frS b % 256]))
      rw [show (170 : Nat) :: fr b = 170 :: 170 :: (85 :: b.length :: (b ++ [frS b / 256, frS b % 256])) from rfl, h2]
      exact pz_one h1 h40
    · rw [pz_byte h, pz_one h1 h40]
  rw [this]
/-- FrameHides. -/
theorem pz_hides {n a b : List Nat} (hn : ∀ c ∈ n, c ≠ 170) (a1 : 1 ≤ a.length) (a40 : a.length ≤ 40) (b1 : 1 ≤ b.length) (b40 : b.length ≤ 40) : pz (n ++ fr a ++ fr b) = ([a, b], 0, []) := by
  rw [List.append_assoc, pz_noise n hn, pz_fr a1 a40, pz_one b1 b40]
theorem pz_cut {n : List Nat} (hn : ∀ c ∈ n, c ≠ 170) (h0 : n.getD 0 0 ≠ 85) : (pz (170 :: n)).2.2 = if n.length = 0 then [170] else [] := by
  cases n with
  | nil => rfl
  | cons c n =>
    rw [pz_aa (c := c) h0, pz_noise_nil hn, if_neg (by simp)]
theorem pz_behind {n b z : List Nat} (hn : ∀ c ∈ n, c ≠ 170) (h0 : n.getD 0 0 ≠ 85) (hz : ∀ c ∈ z, c ≠ 170) (b1 : 1 ≤ b.length) (b40 : b.length ≤ 40) : (pz ((pz (170 :: n)).2.2 ++ (fr b ++ z))).1 = [b] := by
  have e : pz (fr b ++ z) = ([b], 0, []) := by rw [pz_fr b1 b40, pz_noise_nil hz]
  rw [pz_cut hn h0]
  by_cases h : n.length = 0
  · rw [if_pos h]
    have h2 := pz_aa (c := 170) (by decide) (85 :: b.length :: (b ++ [frS b / 256, frS b % 256] ++ z))
    rw [show [170] ++ (fr b ++ z) = 170 :: 170 :: (85 :: b.length :: (b ++ [frS b / 256, frS b % 256] ++ z)) from rfl, h2]
    exact congrArg Prod.fst e
  · rw [if_neg h, List.nil_append, e]
/-- FrameRow: frames one behind another. -/
theorem pz_row : ∀ (ls : List (List Nat)), (∀ x ∈ ls, 1 ≤ x.length ∧ x.length ≤ 40) → pz (ls.map fr).flatten = (ls, 0, [])
  | [], _ => rfl
  | x :: ls, h => by
    have hx := h x List.mem_cons_self
    rw [List.map_cons, List.flatten_cons, pz_fr hx.1 hx.2, pz_row ls fun y hy => h y (List.mem_cons_of_mem _ hy)]
/-- The chapter's known one. -/
theorem pz_known : pz (170 :: 1 :: fr [97, 98]) = ([[97, 98]], 0, []) := by
  rw [pz_aa (by decide), pz_byte (by decide), pz_one (by decide) (by decide)]
end Go.Proofs.Ytmpikkhfeogdcaa
