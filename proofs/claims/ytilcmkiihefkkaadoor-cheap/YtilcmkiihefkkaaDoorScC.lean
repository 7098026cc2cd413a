import Derived.Test.YtilcmkiihefkkaaDoorScB
set_option linter.unusedVariables false
set_option linter.unusedSimpArgs false
namespace Go.Proofs.YtilcmkiihefkkaaDoor

theorem lt3_cases (a b c : Int) : (lt3 a b c = 0 ∧ a ≤ b ∧ a ≤ c) ∨ (lt3 a b c = 1 ∧ ¬ (a ≤ b ∧ a ≤ c) ∧ b ≤ c) ∨ (lt3 a b c = 2 ∧ ¬ (a ≤ b ∧ a ≤ c) ∧ ¬ b ≤ c) := by
  unfold lt3
  split
  · exact Or.inl ⟨rfl, ‹_›⟩
  · split
    · exact Or.inr (Or.inl ⟨rfl, ‹_›, ‹_›⟩)
    · exact Or.inr (Or.inr ⟨rfl, ‹_›, ‹_›⟩)

theorem nx_le (c : C3) (x : Nat) : nx c x ≤ 2 := by
  rcases x with _ | _ | x <;> simp only [nx]
  · rcases lt3_cases c.m c.i c.d with h | h | h <;> omega
  · rcases lt3_cases (c.m + 4) c.i (c.d + 4) with h | h | h <;> omega
  · rcases lt3_cases (c.m + 4) (c.i + 4) c.d with h | h | h <;> omega

/-- a letter is chosen only where it can be had -/
theorem nx_reach (N : Int) (hN : 10000 ≤ N) (c : C3) (i j : Nat) (hi : i ≤ 300) (hj : j ≤ 600) (h : okC N c i j) (hp : 0 < i + j) (x : Nat) :
    (nx c x = 0 → 0 < i ∧ 0 < j) ∧ (nx c x = 1 → 0 < i) ∧ (nx c x = 2 → 0 < j) := by
  obtain ⟨m, y, d⟩ := c
  unfold okC at h
  simp only at h
  obtain ⟨a1, a2, a3, a4, a5, a6, a7, a8, a9, a10, a11, a12⟩ := h
  by_cases h0 : i = 0
  · have hj0 : 0 < j := by omega
    have e1 := a5 h0; have e2 := a8 hj0; have e3 := a10 h0 hj0
    have hx : nx ⟨m, y, d⟩ x = 2 := by
      rcases x with _ | _ | x <;> simp only [nx]
      · rcases lt3_cases m y d with h | h | h <;> omega
      · rcases lt3_cases (m + 4) y (d + 4) with h | h | h <;> omega
      · rcases lt3_cases (m + 4) (y + 4) d with h | h | h <;> omega
    rw [hx]
    exact ⟨fun h => absurd h (by decide), fun h => absurd h (by decide), fun _ => hj0⟩
  · have hi0 : 0 < i := by omega
    by_cases h1 : j = 0
    · have e1 := a7 hi0; have e2 := a6 h1; have e3 := a11 hi0 h1
      have hx : nx ⟨m, y, d⟩ x = 1 := by
        rcases x with _ | _ | x <;> simp only [nx]
        · rcases lt3_cases m y d with h | h | h <;> omega
        · rcases lt3_cases (m + 4) y (d + 4) with h | h | h <;> omega
        · rcases lt3_cases (m + 4) (y + 4) d with h | h | h <;> omega
      rw [hx]
      exact ⟨fun h => absurd h (by decide), fun _ => hi0, fun h => absurd h (by decide)⟩
    · have hj0 : 0 < j := by omega
      exact ⟨fun _ => ⟨hi0, hj0⟩, fun _ => hi0, fun _ => hj0⟩

theorem nx0 (c : C3) : (if c.m = aM c then 0 else if c.i = aM c then 1 else 2) = nx c 0 ∧ pv c (nx c 0) = aM c := by
  have ha : aM c = min c.m (min c.i c.d) := rfl
  have hn : nx c 0 = lt3 c.m c.i c.d := rfl
  rw [hn]
  generalize aM c = a at ha ⊢
  rcases lt3_cases c.m c.i c.d with ⟨h, h1⟩ | ⟨h, h1, h2⟩ | ⟨h, h1, h2⟩
  · rw [h, if_pos (by omega)]
    exact ⟨rfl, by show c.m = a; omega⟩
  · rw [h, if_neg (by omega), if_pos (by omega)]
    exact ⟨rfl, by show c.i = a; omega⟩
  · rw [h, if_neg (by omega), if_neg (by omega)]
    exact ⟨rfl, by show c.d = a; omega⟩

theorem nx1 (c : C3) : (c.m + 6 = aI c + 2 ∧ nx c 1 = 0 ∧ aI c + 2 - 6 = pv c 0) ∨ (¬ c.m + 6 = aI c + 2 ∧ c.i + 2 = aI c + 2 ∧ nx c 1 = 1 ∧ aI c + 2 - 2 = pv c 1) ∨ (¬ c.m + 6 = aI c + 2 ∧ ¬ c.i + 2 = aI c + 2 ∧ nx c 1 = 2 ∧ aI c + 2 - 6 = pv c 2) := by
  obtain ⟨m, y, d⟩ := c
  simp only [nx, aI, pv]
  rcases lt3_cases (m + 4) y (d + 4) with ⟨h, h1⟩ | ⟨h, h1, h2⟩ | ⟨h, h1, h2⟩
  · left; refine ⟨by omega, h, by omega⟩
  · right; left; refine ⟨by omega, by omega, h, by omega⟩
  · right; right; refine ⟨by omega, by omega, h, by omega⟩

theorem nx2 (c : C3) : (c.m + 6 = aD c + 2 ∧ nx c 2 = 0 ∧ aD c + 2 - 6 = pv c 0) ∨ (¬ c.m + 6 = aD c + 2 ∧ c.i + 6 = aD c + 2 ∧ nx c 2 = 1 ∧ aD c + 2 - 6 = pv c 1) ∨ (¬ c.m + 6 = aD c + 2 ∧ ¬ c.i + 6 = aD c + 2 ∧ nx c 2 = 2 ∧ aD c + 2 - 2 = pv c 2) := by
  obtain ⟨m, y, d⟩ := c
  simp only [nx, aD, pv]
  rcases lt3_cases (m + 4) (y + 4) d with ⟨h, h1⟩ | ⟨h, h1, h2⟩ | ⟨h, h1, h2⟩
  · left; refine ⟨by omega, h, by omega⟩
  · right; left; refine ⟨by omega, by omega, h, by omega⟩
  · right; right; refine ⟨by omega, by omega, h, by omega⟩

/-- THE WAY BY WHAT IS LEFT OF THE COST IS THE WAY BY THE FIRST OF THE LEAST -/
theorem rpath_eq (N : Int) (hN : 10000 ≤ N) (u : Nat → Nat → Int) (hu : ∀ i j, 0 ≤ u i j ∧ u i j ≤ 4) : ∀ f i j x, i ≤ 300 → j ≤ 600 →
    rpath N u f i j (nx (cel N u i j) x) (pv (cel N u i j) (nx (cel N u i j) x)) = path N u f i j x
  | 0, _, _, _, _, _ => by unfold rpath path; rfl
  | f + 1, i, j, x, hi, hj => by
    unfold path
    by_cases h0 : i + j = 0
    · rw [if_pos h0]
      have hl := nx_le (cel N u i j) x
      generalize nx (cel N u i j) x = l at hl ⊢
      rcases l with _ | _ | l <;> (unfold rpath; rw [if_pos h0])
    · rw [if_neg h0]
      have hr := nx_reach N hN _ i j hi hj (cel_ok N hN u hu i j hi hj) (by omega) x
      have hl := nx_le (cel N u i j) x
      generalize nx (cel N u i j) x = l at hl hr ⊢
      rcases (show l = 0 ∨ l = 1 ∨ l = 2 by omega) with rfl | rfl | rfl
      · obtain ⟨hi0, hj0⟩ := hr.1 rfl
        obtain ⟨i, rfl⟩ : ∃ k, i = k + 1 := ⟨i - 1, by omega⟩
        obtain ⟨j, rfl⟩ : ∃ k, j = k + 1 := ⟨j - 1, by omega⟩
        have ih := rpath_eq N hN u hu f i j 0 (by omega) (by omega)
        obtain ⟨n1, n2⟩ := nx0 (cel N u i j)
        unfold rpath
        rw [if_neg h0, celss]
        simp only [pv, Nat.add_sub_cancel, Int.add_sub_cancel]
        rw [n1, ← n2, ih]
        rfl
      · have hi0 := hr.2.1 rfl
        obtain ⟨i, rfl⟩ : ∃ k, i = k + 1 := ⟨i - 1, by omega⟩
        have ih := rpath_eq N hN u hu f i j 1 (by omega) hj
        have e : pv (cel N u (i + 1) j) 1 = aI (cel N u i j) + 2 := by
          show (cel N u (i + 1) j).i = _
          cases j with
          | zero => rw [cels0]
          | succ j => rw [celss]
        unfold rpath
        rw [if_neg h0, e]
        simp only [Nat.add_sub_cancel]
        rcases nx1 (cel N u i j) with ⟨q1, q2, q3⟩ | ⟨q1, q2, q3, q4⟩ | ⟨q1, q2, q3, q4⟩
        · rw [if_pos q1, q3]; rw [q2] at ih; rw [ih]; rfl
        · rw [if_neg q1, if_pos q2, q4]; rw [q3] at ih; rw [ih]; rfl
        · rw [if_neg q1, if_neg q2, q4]; rw [q3] at ih; rw [ih]; rfl
      · have hj0 := hr.2.2 rfl
        obtain ⟨j, rfl⟩ : ∃ k, j = k + 1 := ⟨j - 1, by omega⟩
        have ih := rpath_eq N hN u hu f i j 2 hi (by omega)
        have e : pv (cel N u i (j + 1)) 2 = aD (cel N u i j) + 2 := by
          show (cel N u i (j + 1)).d = _
          cases i with
          | zero => rw [cel0s]
          | succ i => rw [celss]
        unfold rpath
        rw [if_neg h0, e]
        simp only [Nat.add_sub_cancel]
        rcases nx2 (cel N u i j) with ⟨q1, q2, q3⟩ | ⟨q1, q2, q3, q4⟩ | ⟨q1, q2, q3, q4⟩
        · rw [if_pos q1, q3]; rw [q2] at ih; rw [ih]; rfl
        · rw [if_neg q1, if_pos q2, q4]; rw [q3] at ih; rw [ih]; rfl
        · rw [if_neg q1, if_neg q2, q4]; rw [q3] at ih; rw [ih]; rfl
end Go.Proofs.YtilcmkiihefkkaaDoor
