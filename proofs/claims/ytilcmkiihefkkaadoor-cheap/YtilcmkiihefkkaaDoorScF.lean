import Derived.Test.YtilcmkiihefkkaaDoorScD
set_option linter.unusedVariables false
set_option linter.unusedSimpArgs false
namespace Go.Proofs.YtilcmkiihefkkaaDoor

/-- what it costs that the next letter begins a run -/
def jn (x : Nat) (t : List Nat) : Int := if x = 0 ∨ t.head? = some x then 0 else 4

/-- what letters (from the end) cost -/
def cst (u : Nat → Nat → Int) : List Nat → Nat → Nat → Int
  | [], _, _ => 0
  | l :: t, i, j => (if l = 0 then u (i - 1) (j - 1) else 2 + jn l t) + cst u t (if l = 2 then i else i - 1) (if l = 1 then j else j - 1)

/-- the least, given the next letter -/
def avc (c : C3) : Nat → Int
  | 0 => aM c
  | 1 => aI c
  | _ => aD c

/-- a letter's cell by the cell ahead of it -/
theorem pv_step (N : Int) (u : Nat → Nat → Int) (l i j : Nat) (hl : l ≤ 2) (h2 : l ≠ 2 → 0 < i) (h3 : l ≠ 1 → 0 < j) :
    pv (cel N u i j) l = avc (cel N u (if l = 2 then i else i - 1) (if l = 1 then j else j - 1)) l + (if l = 0 then u (i - 1) (j - 1) else 2) := by
  rcases (show l = 0 ∨ l = 1 ∨ l = 2 by omega) with h | h | h
  · subst h
    obtain ⟨i, rfl⟩ : ∃ k, i = k + 1 := ⟨i - 1, by have := h2 (by decide); omega⟩
    obtain ⟨j, rfl⟩ : ∃ k, j = k + 1 := ⟨j - 1, by have := h3 (by decide); omega⟩
    rw [celss]
    simp [pv, avc]
  · subst h
    obtain ⟨i, rfl⟩ : ∃ k, i = k + 1 := ⟨i - 1, by have := h2 (by decide); omega⟩
    cases j with
    | zero => rw [cels0]; simp [pv, avc]
    | succ j => rw [celss]; simp [pv, avc]
  · subst h
    obtain ⟨j, rfl⟩ : ∃ k, j = k + 1 := ⟨j - 1, by have := h3 (by decide); omega⟩
    cases i with
    | zero => rw [cel0s]; simp [pv, avc]
    | succ i => rw [celss]; simp [pv, avc]

theorem avc_le (c : C3) (x l : Nat) (t : List Nat) (hx : x ≤ 2) (hl : l ≤ 2) : avc c x ≤ pv c l + jn x (l :: t) := by
  obtain ⟨m, y, d⟩ := c
  rcases (show x = 0 ∨ x = 1 ∨ x = 2 by omega) with h | h | h <;> rcases (show l = 0 ∨ l = 1 ∨ l = 2 by omega) with h' | h' | h' <;> subst h h' <;> simp [avc, pv, jn, aM, aI, aD] <;> omega

/-- NO LETTERS COST LESS -/
theorem cst_ge (N : Int) (hN : 10000 ≤ N) (u : Nat → Nat → Int) : ∀ (t : List Nat) (i j x : Nat), x ≤ 2 → ends t i j → avc (cel N u i j) x ≤ jn x t + cst u t i j
  | [], i, j, x, hx, h => by
    rw [h.1, h.2, cel00]
    rcases (show x = 0 ∨ x = 1 ∨ x = 2 by omega) with h | h | h <;> subst h <;> simp [avc, jn, cst, aM, aI, aD] <;> omega
  | l :: t, i, j, x, hx, h => by
    obtain ⟨h1, h2, h3, h4⟩ := h
    have ih := cst_ge N hN u t _ _ l h1 h4
    have e1 := pv_step N u l i j h1 h2 h3
    have e2 := avc_le (cel N u i j) x l t hx h1
    show _ ≤ jn x (l :: t) + ((if l = 0 then u (i - 1) (j - 1) else 2 + jn l t) + cst u t (if l = 2 then i else i - 1) (if l = 1 then j else j - 1))
    have e3 : (if l = 0 then u (i - 1) (j - 1) else 2 + jn l t) = (if l = 0 then u (i - 1) (j - 1) else 2) + jn l t := by
      by_cases hl : l = 0
      · subst hl; simp [jn]
      · rw [if_neg hl, if_neg hl]
    rw [e3]
    omega

theorem nx_first (c : C3) (x l : Nat) (t : List Nat) (hx : x ≤ 2) (hl : l ≤ 2) (h : pv c l + jn x (l :: t) = avc c x) : nx c x ≤ l := by
  obtain ⟨m, y, d⟩ := c
  rcases (show x = 0 ∨ x = 1 ∨ x = 2 by omega) with hh | hh | hh <;> subst hh
  · rcases lt3_cases m y d with k | k | k <;> rcases (show l = 0 ∨ l = 1 ∨ l = 2 by omega) with h' | h' | h' <;> subst h' <;> simp [avc, pv, jn, aM, aI, aD, nx] at h ⊢ <;> omega
  · rcases lt3_cases (m + 4) y (d + 4) with k | k | k <;> rcases (show l = 0 ∨ l = 1 ∨ l = 2 by omega) with h' | h' | h' <;> subst h' <;> simp [avc, pv, jn, aM, aI, aD, nx] at h ⊢ <;> omega
  · rcases lt3_cases (m + 4) (y + 4) d with k | k | k <;> rcases (show l = 0 ∨ l = 1 ∨ l = 2 by omega) with h' | h' | h' <;> subst h' <;> simp [avc, pv, jn, aM, aI, aD, nx] at h ⊢ <;> omega

theorem nx_least (c : C3) (x : Nat) (t : List Nat) (hx : x ≤ 2) : pv c (nx c x) + jn x (nx c x :: t) = avc c x := by
  obtain ⟨m, y, d⟩ := c
  rcases (show x = 0 ∨ x = 1 ∨ x = 2 by omega) with hh | hh | hh <;> subst hh
  · rcases lt3_cases m y d with k | k | k <;> simp only [nx] <;> rw [k.1] <;> simp [avc, pv, jn, aM, aI, aD] <;> omega
  · rcases lt3_cases (m + 4) y (d + 4) with k | k | k <;> simp only [nx] <;> rw [k.1] <;> simp [avc, pv, jn, aM, aI, aD] <;> omega
  · rcases lt3_cases (m + 4) (y + 4) d with k | k | k <;> simp only [nx] <;> rw [k.1] <;> simp [avc, pv, jn, aM, aI, aD] <;> omega

theorem cst_cons (u : Nat → Nat → Int) (l : Nat) (t : List Nat) (i j : Nat) :
    cst u (l :: t) i j = (if l = 0 then u (i - 1) (j - 1) else 2) + (jn l t + cst u t (if l = 2 then i else i - 1) (if l = 1 then j else j - 1)) := by
  show (if l = 0 then u (i - 1) (j - 1) else 2 + jn l t) + _ = _
  by_cases hl : l = 0
  · subst hl; simp [jn]
  · rw [if_neg hl, if_neg hl]; omega

/-- WHAT THE SCRIPT COSTS: the least -/
theorem path_cost (N : Int) (hN : 10000 ≤ N) (u : Nat → Nat → Int) (hu : ∀ i j, 0 ≤ u i j ∧ u i j ≤ 4) : ∀ f i j x, i ≤ 300 → j ≤ 600 → i + j ≤ f → x ≤ 2 →
    jn x (path N u f i j x) + cst u (path N u f i j x) i j = avc (cel N u i j) x
  | 0, i, j, x, hi, hj, hf, hx => by
    have e1 : i = 0 := by omega
    have e2 : j = 0 := by omega
    subst e1 e2
    rw [cel00]
    rcases (show x = 0 ∨ x = 1 ∨ x = 2 by omega) with h | h | h <;> subst h <;> simp [path, avc, jn, cst, aM, aI, aD] <;> omega
  | f + 1, i, j, x, hi, hj, hf, hx => by
    by_cases h0 : i + j = 0
    · have e1 : i = 0 := by omega
      have e2 : j = 0 := by omega
      subst e1 e2
      rw [cel00]
      rcases (show x = 0 ∨ x = 1 ∨ x = 2 by omega) with h | h | h <;> subst h <;> simp [path, avc, jn, cst, aM, aI, aD] <;> omega
    · have he := path_ends N hN u hu (f + 1) i j x hi hj hf
      have ep : path N u (f + 1) i j x = nx (cel N u i j) x :: path N u f (if nx (cel N u i j) x = 2 then i else i - 1) (if nx (cel N u i j) x = 1 then j else j - 1) (nx (cel N u i j) x) := by
        show (if i + j = 0 then [] else _) = _
        rw [if_neg h0]
      rw [ep] at he ⊢
      obtain ⟨h1, h2, h3, h4⟩ := he
      have e1 := pv_step N u _ i j h1 h2 h3
      have e2 := fun t => nx_least (cel N u i j) x t hx
      generalize nx (cel N u i j) x = l at *
      have ih := path_cost N hN u hu f (if l = 2 then i else i - 1) (if l = 1 then j else j - 1) l (by split <;> omega) (by split <;> omega) (by
        rcases (show l = 0 ∨ l = 1 ∨ l = 2 by omega) with h | h | h
        · subst h; have := h2 (by decide); simp; omega
        · subst h; have := h2 (by decide); simp; omega
        · subst h; have := h3 (by decide); simp; omega) h1
      have e3 := e2 (path N u f (if l = 2 then i else i - 1) (if l = 1 then j else j - 1) l)
      rw [cst_cons]
      omega

/-- read from the end: is the first ahead of the second? -/
def ahd : List Nat → List Nat → Prop
  | x :: a, y :: b => if x = y then ahd a b else x < y
  | _, _ => False

/-- NONE THAT COSTS AS LITTLE IS AHEAD -/
theorem path_first (N : Int) (hN : 10000 ≤ N) (u : Nat → Nat → Int) (hu : ∀ i j, 0 ≤ u i j ∧ u i j ≤ 4) : ∀ f i j x (t : List Nat), x ≤ 2 → ends t i j → jn x t + cst u t i j = avc (cel N u i j) x → ¬ ahd t (path N u f i j x)
  | 0, i, j, x, t, _, _, _ => by
    unfold path
    cases t <;> simp [ahd]
  | f + 1, i, j, x, [], _, _, _ => by simp [ahd]
  | f + 1, i, j, x, l :: t, hx, he, hc => by
    unfold path
    by_cases h0 : i + j = 0
    · rw [if_pos h0]; simp [ahd]
    · rw [if_neg h0]
      obtain ⟨h1, h2, h3, h4⟩ := he
      have g := cst_ge N hN u t _ _ l h1 h4
      have e1 := pv_step N u l i j h1 h2 h3
      have e2 := avc_le (cel N u i j) x l t hx h1
      rw [cst_cons] at hc
      have hpv : pv (cel N u i j) l + jn x (l :: t) = avc (cel N u i j) x := by omega
      have hn := nx_first (cel N u i j) x l t hx h1 hpv
      show ¬ (if l = nx (cel N u i j) x then ahd t _ else l < nx (cel N u i j) x)
      by_cases hl : l = nx (cel N u i j) x
      · rw [if_pos hl, ← hl]
        exact path_first N hN u hu f _ _ l t h1 h4 (by omega)
      · rw [if_neg hl]; omega
end Go.Proofs.YtilcmkiihefkkaaDoor
