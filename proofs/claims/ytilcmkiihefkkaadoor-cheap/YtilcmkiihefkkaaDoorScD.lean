import Derived.Test.YtilcmkiihefkkaaDoorScC
set_option linter.unusedVariables false
set_option linter.unusedSimpArgs false
namespace Go.Proofs.YtilcmkiihefkkaaDoor

/-- letters from the end that lead from a place to the beginning -/
def ends : List Nat → Nat → Nat → Prop
  | [], i, j => i = 0 ∧ j = 0
  | l :: t, i, j => l ≤ 2 ∧ (l ≠ 2 → 0 < i) ∧ (l ≠ 1 → 0 < j) ∧ ends t (if l = 2 then i else i - 1) (if l = 1 then j else j - 1)

theorem path_ends (N : Int) (hN : 10000 ≤ N) (u : Nat → Nat → Int) (hu : ∀ i j, 0 ≤ u i j ∧ u i j ≤ 4) : ∀ f i j x, i ≤ 300 → j ≤ 600 → i + j ≤ f → ends (path N u f i j x) i j
  | 0, i, j, x, _, _, hf => by
    unfold path
    exact ⟨by omega, by omega⟩
  | f + 1, i, j, x, hi, hj, hf => by
    unfold path
    by_cases h0 : i + j = 0
    · rw [if_pos h0]; exact ⟨by omega, by omega⟩
    · rw [if_neg h0]
      have hr := nx_reach N hN _ i j hi hj (cel_ok N hN u hu i j hi hj) (by omega) x
      have hl := nx_le (cel N u i j) x
      generalize nx (cel N u i j) x = l at hl hr ⊢
      obtain ⟨r0, r1, r2⟩ := hr
      refine ⟨hl, fun h => ?_, fun h => ?_, path_ends N hN u hu f _ _ _ (by split <;> omega) (by split <;> omega) ?_⟩
      · rcases (show l = 0 ∨ l = 1 by omega) with h | h
        · exact (r0 h).1
        · exact r1 h
      · rcases (show l = 0 ∨ l = 2 by omega) with h | h
        · exact (r0 h).2
        · exact r2 h
      · rcases (show l = 0 ∨ l = 1 ∨ l = 2 by omega) with h | h | h
        · have := r0 h; subst h; simp; omega
        · have := r1 h; subst h; simp; omega
        · have := r2 h; subst h; simp; omega

/-- a step from the beginning -/
def stF (p : Nat × Nat) (l : Nat) : Nat × Nat := (if l = 2 then p.1 else p.1 + 1, if l = 1 then p.2 else p.2 + 1)

theorem ends_pos : ∀ (t : List Nat) (i j : Nat), ends t i j → t.reverse.foldl stF (0, 0) = (i, j)
  | [], i, j, h => by rw [h.1, h.2]; rfl
  | l :: t, i, j, h => by
    obtain ⟨h1, h2, h3, h4⟩ := h
    rw [List.reverse_cons, List.foldl_append, ends_pos t _ _ h4]
    show stF _ l = _
    unfold stF
    rcases (show l = 0 ∨ l = 1 ∨ l = 2 by omega) with h | h | h <;> subst h <;> simp at h2 h3 ⊢ <;> omega

/-- pairs alike, counted from the end -/
def cntB (s : Nat → Nat → Bool) : List Nat → Nat → Nat → Nat
  | [], _, _ => 0
  | l :: t, i, j => (if l = 0 ∧ s (i - 1) (j - 1) = true then 1 else 0) + cntB s t (if l = 2 then i else i - 1) (if l = 1 then j else j - 1)

/-- pairs alike, counted from the beginning -/
def cntF (s : Nat → Nat → Bool) : List Nat → Nat × Nat → Nat
  | [], _ => 0
  | l :: t, p => (if l = 0 ∧ s p.1 p.2 = true then 1 else 0) + cntF s t (stF p l)

theorem cntF_app (s : Nat → Nat → Bool) (l : Nat) : ∀ (a : List Nat) (p : Nat × Nat), cntF s (a ++ [l]) p = cntF s a p + (if l = 0 ∧ s (a.foldl stF p).1 (a.foldl stF p).2 = true then 1 else 0)
  | [], p => by
    show (if l = 0 ∧ s p.1 p.2 = true then 1 else 0) + 0 = 0 + (if l = 0 ∧ s p.1 p.2 = true then 1 else 0)
    rw [Nat.add_comm]
  | x :: a, p => by
    show (if x = 0 ∧ s p.1 p.2 = true then 1 else 0) + cntF s (a ++ [l]) (stF p x) = (if x = 0 ∧ s p.1 p.2 = true then 1 else 0) + cntF s a (stF p x) + _
    rw [cntF_app s l a (stF p x), Nat.add_assoc]
    rfl

/-- THE SAME COUNT -/
theorem cnt_same (s : Nat → Nat → Bool) : ∀ (t : List Nat) (i j : Nat), ends t i j → cntF s t.reverse (0, 0) = cntB s t i j
  | [], _, _, _ => rfl
  | l :: t, i, j, h => by
    obtain ⟨h1, h2, h3, h4⟩ := h
    rw [List.reverse_cons, cntF_app, ends_pos t _ _ h4, cnt_same s t _ _ h4, Nat.add_comm]
    show _ = (if l = 0 ∧ s (i - 1) (j - 1) = true then 1 else 0) + cntB s t (if l = 2 then i else i - 1) (if l = 1 then j else j - 1)
    congr 1
    by_cases hl : l = 0
    · subst hl; rfl
    · have e1 : ¬ (l = 0 ∧ s (i - 1) (j - 1) = true) := fun h => hl h.1
      have e2 : ¬ (l = 0 ∧ s (if l = 2 then i else i - 1, if l = 1 then j else j - 1).1 (if l = 2 then i else i - 1, if l = 1 then j else j - 1).2 = true) := fun h => hl h.1
      rw [if_neg e1, if_neg e2]
end Go.Proofs.YtilcmkiihefkkaaDoor
