import Derived.Test.YtilcmkiihefkkaaDoorScD
set_option linter.unusedVariables false
set_option linter.unusedSimpArgs false
namespace Go.Proofs.YtilcmkiihefkkaaDoor

/-- the runs of the first k letters: where the run that is under way begins, and those that are done -/
def rl (L : List Nat) : Nat → Nat × List (Nat × Nat)
  | 0 => (0, [])
  | k + 1 => if k + 1 = L.length ∨ L.getD (k + 1) 9 ≠ L.getD k 9 then (k + 1, (rl L k).2 ++ [(k + 1 - (rl L k).1, L.getD k 9)]) else rl L k

theorem rl_from (L : List Nat) : ∀ k, (rl L k).1 ≤ k ∧ (k < L.length → ∀ t, (rl L k).1 ≤ t → t ≤ k → L.getD t 9 = L.getD (rl L k).1 9)
  | 0 => ⟨Nat.le_refl _, fun _ t h1 h2 => by
    have : t = 0 := by omega
    subst this; rfl⟩
  | k + 1 => by
    have ih := rl_from L k
    have e : rl L (k + 1) = if k + 1 = L.length ∨ L.getD (k + 1) 9 ≠ L.getD k 9 then (k + 1, (rl L k).2 ++ [(k + 1 - (rl L k).1, L.getD k 9)]) else rl L k := rfl
    by_cases hc : k + 1 = L.length ∨ L.getD (k + 1) 9 ≠ L.getD k 9
    · rw [e, if_pos hc]
      refine ⟨Nat.le_refl _, fun _ t h1 h2 => ?_⟩
      have : t = k + 1 := by
        have h1' : k + 1 ≤ t := h1
        omega
      subst this; rfl
    · rw [e, if_neg hc]
      refine ⟨by omega, fun hk t h1 h2 => ?_⟩
      have hk2 : k < L.length := by omega
      have i2 := ih.2 hk2
      by_cases ht : t ≤ k
      · exact i2 t h1 ht
      · have : t = k + 1 := by omega
        subst this
        have hq : L.getD (k + 1) 9 = L.getD k 9 := Classical.byContradiction fun h => hc (Or.inr h)
        rw [hq]
        exact i2 k ih.1 (Nat.le_refl _)

/-- the end of a run, told by its first letter -/
theorem rl_cond (L : List Nat) (k : Nat) (hk : k < L.length) : (k + 1 < L.length ∧ L.getD (k + 1) 9 = L.getD (rl L k).1 9) ↔ ¬ (k + 1 = L.length ∨ L.getD (k + 1) 9 ≠ L.getD k 9) := by
  have ih := rl_from L k
  have e : L.getD k 9 = L.getD (rl L k).1 9 := ih.2 hk k ih.1 (Nat.le_refl _)
  rw [e]
  constructor
  · rintro ⟨h1, h2⟩ (h | h)
    · omega
    · exact h h2
  · intro h
    refine ⟨?_, Classical.byContradiction fun h' => h (Or.inr h')⟩
    have : k + 1 ≠ L.length := fun h' => h (Or.inl h')
    omega

theorem rl_letter (L : List Nat) (k : Nat) (hk : k < L.length) : L.getD k 9 = L.getD (rl L k).1 9 := (rl_from L k).2 hk k (rl_from L k).1 (Nat.le_refl _)

/-- a run's length and letter are small -/
theorem rl_small (L : List Nat) (n : Nat) (hn : L.length ≤ n) (hl : ∀ x ∈ L, x ≤ 2) : ∀ k, k ≤ L.length → ∀ p ∈ (rl L k).2, 0 < p.1 ∧ p.1 ≤ n ∧ p.2 ≤ 2
  | 0, _, p, hp => by simp [rl] at hp
  | k + 1, hk, p, hp => by
    have e : rl L (k + 1) = if k + 1 = L.length ∨ L.getD (k + 1) 9 ≠ L.getD k 9 then (k + 1, (rl L k).2 ++ [(k + 1 - (rl L k).1, L.getD k 9)]) else rl L k := rfl
    rw [e] at hp
    have ih := rl_small L n hn hl k (by omega)
    split at hp
    · rw [List.mem_append, List.mem_singleton] at hp
      rcases hp with hp | rfl
      · exact ih p hp
      · have h1 := (rl_from L k).1
        have h2 : L.getD k 9 = L[k] := by simp [show k < L.length by omega]
        refine ⟨by show 0 < k + 1 - _; omega, by show k + 1 - _ ≤ n; omega, ?_⟩
        show L.getD k 9 ≤ 2
        rw [h2]; exact hl _ (List.getElem_mem _)
    · exact ih p hp
end Go.Proofs.YtilcmkiihefkkaaDoor
