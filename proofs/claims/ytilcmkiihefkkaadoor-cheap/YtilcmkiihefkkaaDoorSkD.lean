import Derived.Test.YtilcmkiihefkkaaDoorSkC
set_option linter.unusedVariables false
set_option linter.unusedSimpArgs false
set_option maxRecDepth 100000
namespace Go.Proofs.YtilcmkiihefkkaaDoor
open Go.RowKit Go.Shelf

/-- where letters stands: what is out, the number under way, the last letter (9: none) -/
structure LS where
  o : List Nat
  n : Nat
  la : Nat

def lstep (st : LS) (c : UInt8) : Option LS :=
  if 48 ≤ c.toNat ∧ c.toNat ≤ 57 then
    (if 10 * st.n + (c.toNat - 48) = 0 ∨ 1000 < 10 * st.n + (c.toNat - 48) then none else some ⟨st.o, 10 * st.n + (c.toNat - 48), st.la⟩)
  else if st.n = 0 then none
  else if c = 77 ∧ st.la ≠ 0 then some ⟨st.o ++ List.replicate st.n 0, 0, 0⟩
  else if c = 73 ∧ st.la ≠ 1 then some ⟨st.o ++ List.replicate st.n 1, 0, 1⟩
  else if c = 68 ∧ st.la ≠ 2 then some ⟨st.o ++ List.replicate st.n 2, 0, 2⟩
  else none

def pst : List UInt8 → LS → Option LS
  | [], st => some st
  | c :: t, st => (lstep st c).bind (pst t)

theorem pst_append : ∀ (a b : List UInt8) (st : LS), pst (a ++ b) st = (pst a st).bind (pst b)
  | [], b, st => rfl
  | c :: a, b, st => by
    show (lstep st c).bind (pst (a ++ b)) = ((lstep st c).bind (pst a)).bind (pst b)
    cases h : lstep st c with
    | none => rfl
    | some s => exact pst_append a b s

theorem lstep_cases (st st' : LS) (c : UInt8) (h : lstep st c = some st') :
    (∃ d, d ≤ 9 ∧ c.toNat = 48 + d ∧ 0 < 10 * st.n + d ∧ 10 * st.n + d ≤ 1000 ∧ st' = ⟨st.o, 10 * st.n + d, st.la⟩) ∨
    (∃ l, l ≤ 2 ∧ c = ltr l ∧ 0 < st.n ∧ st.la ≠ l ∧ st' = ⟨st.o ++ List.replicate st.n l, 0, l⟩) := by
  unfold lstep at h
  split at h
  · rename_i hd
    split at h
    · cases h
    · rename_i hb
      left
      refine ⟨c.toNat - 48, by omega, by omega, by omega, by omega, ?_⟩
      simpa using h.symm
  · split at h
    · cases h
    · right
      split at h
      · rename_i hn hc
        exact ⟨0, by omega, hc.1, by omega, hc.2, by simpa using h.symm⟩
      · split at h
        · rename_i hn _ hc
          exact ⟨1, by omega, hc.1, by omega, hc.2, by simpa using h.symm⟩
        · split at h
          · rename_i hn _ _ hc
            exact ⟨2, by omega, hc.1, by omega, hc.2, by simpa using h.symm⟩
          · cases h

theorem lstep_digit (o : List Nat) (n la d : Nat) (hd : d ≤ 9) (h1 : 0 < 10 * n + d) (h2 : 10 * n + d ≤ 1000) : lstep ⟨o, n, la⟩ (UInt8.ofNat (48 + d)) = some ⟨o, 10 * n + d, la⟩ := by
  have e : (UInt8.ofNat (48 + d)).toNat = 48 + d := by rw [UInt8.toNat_ofNat']; omega
  unfold lstep
  rw [e, if_pos (by omega)]
  simp only
  rw [if_neg (by omega), show 48 + d - 48 = d by omega]

theorem lstep_letter (o : List Nat) (n la l : Nat) (hl : l ≤ 2) (hn : 0 < n) (h : la ≠ l) : lstep ⟨o, n, la⟩ (ltr l) = some ⟨o ++ List.replicate n l, 0, l⟩ := by
  unfold lstep
  rcases (show l = 0 ∨ l = 1 ∨ l = 2 by omega) with rfl | rfl | rfl
  · rw [if_neg (by decide), if_neg (by simp only; omega), if_pos ⟨rfl, h⟩]
  · rw [if_neg (by decide), if_neg (by simp only; omega), if_neg (fun h => absurd h.1 (by decide)), if_pos ⟨rfl, h⟩]
  · rw [if_neg (by decide), if_neg (by simp only; omega), if_neg (fun h => absurd h.1 (by decide)), if_neg (fun h => absurd h.1 (by decide)), if_pos ⟨rfl, h⟩]

theorem pst_digits (f : Nat) : ∀ (u : Nat) (o : List Nat) (la : Nat), u ≤ f → 0 < u → u ≤ 1000 → pst (Lib.decDigits u) ⟨o, 0, la⟩ = some ⟨o, u, la⟩ := by
  induction f with
  | zero => intro u o la h1 h2; omega
  | succ f ih =>
    intro u o la h1 h2 h3
    by_cases h : u < 10
    · rw [Lib.decDigits, dif_pos h]
      have := lstep_digit o 0 la u (by omega) (by omega) (by omega)
      show (lstep _ _).bind (pst []) = _
      rw [this]
      simp [pst]
    · rw [Lib.decDigits, dif_neg h, pst_append, ih (u / 10) o la (by omega) (by omega) (by omega)]
      have := lstep_digit o (u / 10) la (u % 10) (by omega) (by omega) (by omega)
      show (lstep _ _).bind (pst []) = _
      rw [this]
      simp [pst]
      omega

theorem pst_run (o : List Nat) (la : Nat) (p : Nat × Nat) (h1 : 0 < p.1) (h2 : p.1 ≤ 1000) (h3 : p.2 ≤ 2) (h4 : la ≠ p.2) : pst (Lib.decDigits p.1 ++ [ltr p.2]) ⟨o, 0, la⟩ = some ⟨o ++ List.replicate p.1 p.2, 0, p.2⟩ := by
  rw [pst_append, pst_digits p.1 p.1 o la (Nat.le_refl _) h1 h2]
  show (lstep _ _).bind (pst []) = _
  rw [lstep_letter o p.1 la p.2 h3 h1 h4]
  rfl

theorem take_rep (L : List Nat) (a l : Nat) : ∀ n, a + n ≤ L.length → (∀ t, a ≤ t → t < a + n → L.getD t 9 = l) → L.take (a + n) = L.take a ++ List.replicate n l
  | 0, _, _ => by simp
  | n + 1, h, hl => by
    have ih := take_rep L a l n (by omega) (fun t h1 h2 => hl t h1 (by omega))
    rw [show a + (n + 1) = (a + n) + 1 by omega, take_app L (a + n) (by omega), ih, hl (a + n) (by omega) (by omega), List.replicate_succ', List.append_assoc]

/-- the runs, read again -/
theorem rl_pst (L : List Nat) (hL : ∀ x ∈ L, x ≤ 2) (hl : L.length ≤ 1000) : ∀ k, k ≤ L.length →
    pst (rtxt (rl L k).2) ⟨[], 0, 9⟩ = some ⟨L.take (rl L k).1, 0, if (rl L k).1 = 0 then 9 else L.getD ((rl L k).1 - 1) 9⟩ ∧ (0 < (rl L k).1 → (rl L k).1 < L.length → L.getD ((rl L k).1 - 1) 9 ≠ L.getD (rl L k).1 9)
  | 0, _ => by
    refine ⟨rfl, fun h => ?_⟩
    simp [rl] at h
  | k + 1, hk => by
    obtain ⟨ih1, ih2⟩ := rl_pst L hL hl k (by omega)
    have hf := rl_from L k
    have e : rl L (k + 1) = if k + 1 = L.length ∨ L.getD (k + 1) 9 ≠ L.getD k 9 then (k + 1, (rl L k).2 ++ [(k + 1 - (rl L k).1, L.getD k 9)]) else rl L k := rfl
    by_cases hc : k + 1 = L.length ∨ L.getD (k + 1) 9 ≠ L.getD k 9
    · rw [e, if_pos hc]
      have hke : L.getD k 9 = L.getD (rl L k).1 9 := hf.2 (by omega) k hf.1 (Nat.le_refl _)
      refine ⟨?_, fun h1 h2 => ?_⟩
      · rw [rtxt_append, pst_append, ih1]
        have hkl : k < L.length := by omega
        have hk2 : L.getD k 9 ≤ 2 := hL _ (by simp [hkl])
        have := pst_run (L.take (rl L k).1) (if (rl L k).1 = 0 then 9 else L.getD ((rl L k).1 - 1) 9) (k + 1 - (rl L k).1, L.getD k 9) (by simp only; have := hf.1; omega) (by simp only; omega) hk2 (by
          simp only
          split
          · omega
          · rw [hke]; exact ih2 (by omega) (by have := hf.1; omega))
        show pst _ _ = _
        rw [this]
        have t := take_rep L (rl L k).1 (L.getD k 9) (k + 1 - (rl L k).1) (by have := hf.1; omega) (fun t h1 h2 => by rw [hke]; exact hf.2 (by omega) t h1 (by omega))
        rw [show (rl L k).1 + (k + 1 - (rl L k).1) = k + 1 by have := hf.1; omega] at t
        simp [t]
      · simp only at h1 h2 ⊢
        rcases hc with h | h
        · omega
        · rw [Nat.add_sub_cancel]; exact fun h' => h h'.symm
    · rw [e, if_neg hc]
      exact ⟨ih1, ih2⟩

theorem rl_whole (L : List Nat) : (rl L L.length).1 = L.length := by
  cases h : L.length with
  | zero => rfl
  | succ k =>
    show (if k + 1 = L.length ∨ L.getD (k + 1) 9 ≠ L.getD k 9 then (k + 1, (rl L k).2 ++ [(k + 1 - (rl L k).1, L.getD k 9)]) else rl L k).1 = _
    rw [if_pos (Or.inl h.symm)]

theorem rtxt_pst (L : List Nat) (hL : ∀ x ∈ L, x ≤ 2) (hl : L.length ≤ 1000) : ∃ la, pst (rtxt (rl L L.length).2) ⟨[], 0, 9⟩ = some ⟨L, 0, la⟩ := by
  have h := (rl_pst L hL hl L.length (Nat.le_refl _)).1
  rw [rl_whole, List.take_length] at h
  exact ⟨_, h⟩
end Go.Proofs.YtilcmkiihefkkaaDoor
