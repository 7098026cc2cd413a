import Derived.Test.YtilcmkiihefkkaaDoorProg
set_option linter.unusedVariables false
set_option linter.unusedSimpArgs false
namespace Go.Proofs.YtilcmkiihefkkaaDoor

/-- what the cheapest scripts to a place cost, by the letter that they end with -/
structure C3 where
  m : Int
  i : Int
  d : Int

def aM (c : C3) : Int := min c.m (min c.i c.d)
def aI (c : C3) : Int := min (c.m + 4) (min c.i (c.d + 4))
def aD (c : C3) : Int := min (c.m + 4) (min (c.i + 4) c.d)

/-- the first row; N: more than any script costs -/
def row0 (N : Int) : Nat → C3
  | 0 => ⟨0, N, N⟩
  | j + 1 => ⟨N, N, aD (row0 N j) + 2⟩

/-- the row behind a row; u: what a pair of bases costs -/
def rowS (N : Int) (u : Nat → Int) (p : Nat → C3) : Nat → C3
  | 0 => ⟨N, aI (p 0) + 2, N⟩
  | j + 1 => ⟨aM (p j) + u j, aI (p (j + 1)) + 2, aD (rowS N u p j) + 2⟩

def cel (N : Int) (u : Nat → Nat → Int) : Nat → Nat → C3
  | 0 => row0 N
  | i + 1 => rowS N (u i) (cel N u i)

theorem cel00 (N : Int) (u : Nat → Nat → Int) : cel N u 0 0 = ⟨0, N, N⟩ := rfl
theorem cel0s (N : Int) (u : Nat → Nat → Int) (j : Nat) : cel N u 0 (j + 1) = ⟨N, N, aD (cel N u 0 j) + 2⟩ := rfl
theorem cels0 (N : Int) (u : Nat → Nat → Int) (i : Nat) : cel N u (i + 1) 0 = ⟨N, aI (cel N u i 0) + 2, N⟩ := rfl
theorem celss (N : Int) (u : Nat → Nat → Int) (i j : Nat) : cel N u (i + 1) (j + 1) = ⟨aM (cel N u i j) + u i j, aI (cel N u i (j + 1)) + 2, aD (cel N u (i + 1) j) + 2⟩ := rfl

/-- a cell's bounds: what can be had is small, what can't is N -/
def okC (N : Int) (c : C3) (i j : Nat) : Prop :=
  0 ≤ c.m ∧ 0 ≤ c.i ∧ 0 ≤ c.d ∧ (c.m ≤ 6 * ((i : Int) + j) ∨ c.i ≤ 6 * ((i : Int) + j) ∨ c.d ≤ 6 * ((i : Int) + j)) ∧ (i = 0 → c.i = N) ∧ (j = 0 → c.d = N) ∧ (0 < i → c.i ≤ 6 * ((i : Int) + j)) ∧ (0 < j → c.d ≤ 6 * ((i : Int) + j)) ∧
  (0 < i → 0 < j → c.m ≤ 6 * ((i : Int) + j)) ∧ (i = 0 → 0 < j → c.m = N) ∧ (0 < i → j = 0 → c.m = N) ∧ (i = 0 → j = 0 → c.m = 0)

theorem cel_ok (N : Int) (hN : 10000 ≤ N) (u : Nat → Nat → Int) (hu : ∀ i j, 0 ≤ u i j ∧ u i j ≤ 4) : ∀ i j, i ≤ 300 → j ≤ 600 → okC N (cel N u i j) i j := by
  intro i
  induction i with
  | zero =>
    intro j
    induction j with
    | zero =>
     intro _ _
     rw [cel00]; unfold okC; simp; omega
    | succ j ih =>
     intro hi hj
     have h := ih hi (by omega)
     rw [cel0s]
     generalize cel N u 0 j = c at h ⊢
     obtain ⟨m, i, d⟩ := c
     unfold okC at *
     simp only [aD] at *
     obtain ⟨a1, a2, a3, a4, a5, a6, a7, a8, a9, a10, a11, a12⟩ := h
     have b5 := a5 trivial
     have b8 : 0 < j → d ≤ 6 * (((0 : Nat) : Int) + j) := a8
     have b12 : j = 0 → m = 0 := a12 trivial
     have b13 : j = 0 ∨ 0 < j := by omega
     have b14 : d + 2 ≤ 6 * (((0 : Nat) : Int) + j) + 6 ∨ m + 6 ≤ 6 * (((0 : Nat) : Int) + j) + 6 := by
       rcases b13 with h | h
       · right; rw [b12 h]; omega
       · left; have := b8 h; omega
     clear a4 a5 a6 a7 a8 a9 a10 a11 a12 b8 b12
     refine ⟨?_, ?_, ?_, ?_, ?_, ?_, ?_, ?_, ?_, ?_, ?_, ?_⟩ <;> (try intros) <;> first | rfl | omega | (exfalso; omega) | (rename_i h; exact absurd h (by simp)) | (rename_i h h'; exact absurd h (by simp)) | (rename_i h h'; exact absurd h' (by simp))
  | succ i ihi =>
    intro j
    induction j with
    | zero =>
     intro hi hj
     have h := ihi 0 (by omega) hj
     rw [cels0]
     generalize cel N u i 0 = c at h ⊢
     obtain ⟨m, x, d⟩ := c
     unfold okC at *
     simp only [aI] at *
     obtain ⟨a1, a2, a3, a4, a5, a6, a7, a8, a9, a10, a11, a12⟩ := h
     have b5 := a6 trivial
     have b8 : 0 < i → x ≤ 6 * ((i : Int) + ((0 : Nat) : Int)) := a7
     have b12 : i = 0 → m = 0 := fun h => a12 h trivial
     have b13 : i = 0 ∨ 0 < i := by omega
     have b14 : x + 2 ≤ 6 * ((i : Int) + ((0 : Nat) : Int)) + 6 ∨ m + 6 ≤ 6 * ((i : Int) + ((0 : Nat) : Int)) + 6 := by
       rcases b13 with h | h
       · right; rw [b12 h]; omega
       · left; have := b8 h; omega
     clear a4 a5 a6 a7 a8 a9 a10 a11 a12 b8 b12
     refine ⟨?_, ?_, ?_, ?_, ?_, ?_, ?_, ?_, ?_, ?_, ?_, ?_⟩ <;> (try intros) <;> first | rfl | omega | (exfalso; omega) | (rename_i h; exact absurd h (by simp)) | (rename_i h h'; exact absurd h (by simp)) | (rename_i h h'; exact absurd h' (by simp))
    | succ j ihj =>
     intro hi hj
     have h1 := ihi j (by omega) (by omega)
     have h2 := ihi (j + 1) (by omega) hj
     have h3 := ihj hi (by omega)
     have h4 := hu i j
     rw [celss]
     generalize u i j = x at h4 ⊢
     generalize cel N u i j = c1 at h1 ⊢
     generalize cel N u i (j + 1) = c2 at h2 ⊢
     generalize cel N u (i + 1) j = c3 at h3 ⊢
     obtain ⟨m1, i1, d1⟩ := c1
     obtain ⟨m2, i2, d2⟩ := c2
     obtain ⟨m3, i3, d3⟩ := c3
     unfold okC at *
     simp only [aI, aD, aM] at *
     obtain ⟨a1, a2, a3, a4, -⟩ := h1
     obtain ⟨b1, b2, b3, b4, -, -, -, b5, -⟩ := h2
     obtain ⟨c1, c2, c3, c4, -, -, c5, -⟩ := h3
     have b6 := b5 (by omega)
     have c6 := c5 (by omega)
     refine ⟨?_, ?_, ?_, ?_, ?_, ?_, ?_, ?_, ?_, ?_, ?_, ?_⟩ <;> (try intros) <;> first | rfl | omega | (exfalso; omega) | (rename_i h; exact absurd h (by simp)) | (rename_i h h'; exact absurd h (by simp)) | (rename_i h h'; exact absurd h' (by simp))

/-- a gap of the read as a whole: of length up to n -/
def gapI (N : Int) (u : Nat → Nat → Int) (i j : Nat) : Nat → Int
  | 0 => N
  | n + 1 => min (gapI N u i j n) (min (cel N u (i - (n + 1)) j).m (cel N u (i - (n + 1)) j).d + 4 + 2 * ((n : Int) + 1))

def gapD (N : Int) (u : Nat → Nat → Int) (i j : Nat) : Nat → Int
  | 0 => N
  | n + 1 => min (gapD N u i j n) (min (cel N u i (j - (n + 1))).m (cel N u i (j - (n + 1))).i + 4 + 2 * ((n : Int) + 1))

theorem gapI_step (N : Int) (u : Nat → Nat → Int) (i j : Nat) : ∀ n, min (gapI N u (i + 1) j (n + 1)) (N + 2) = min N (min (min (cel N u i j).m (cel N u i j).d + 6) (gapI N u i j n + 2))
  | 0 => by
    show min (min N (min (cel N u (i + 1 - (0 + 1)) j).m (cel N u (i + 1 - (0 + 1)) j).d + 4 + 2 * (((0 : Nat) : Int) + 1))) (N + 2) = min N (min (min (cel N u i j).m (cel N u i j).d + 6) (N + 2))
    rw [show i + 1 - (0 + 1) = i by omega]
    generalize min (cel N u i j).m (cel N u i j).d = x
    omega
  | n + 1 => by
    have h := gapI_step N u i j n
    have e : i + 1 - (n + 1 + 1) = i - (n + 1) := by omega
    have e1 : gapI N u i j (n + 1) = min (gapI N u i j n) (min (cel N u (i - (n + 1)) j).m (cel N u (i - (n + 1)) j).d + 4 + 2 * ((n : Int) + 1)) := rfl
    have e2 : gapI N u (i + 1) j (n + 1 + 1) = min (gapI N u (i + 1) j (n + 1)) (min (cel N u (i - (n + 1)) j).m (cel N u (i - (n + 1)) j).d + 4 + 2 * (((n + 1 : Nat) : Int) + 1)) := by
      rw [← e]; rfl
    rw [e2, e1]
    generalize min (cel N u (i - (n + 1)) j).m (cel N u (i - (n + 1)) j).d = y at *
    generalize min (cel N u i j).m (cel N u i j).d = x at *
    generalize gapI N u (i + 1) j (n + 1) = a at *
    generalize gapI N u i j n = b at *
    push_cast
    omega

theorem gapD_step (N : Int) (u : Nat → Nat → Int) (i j : Nat) : ∀ n, min (gapD N u i (j + 1) (n + 1)) (N + 2) = min N (min (min (cel N u i j).m (cel N u i j).i + 6) (gapD N u i j n + 2))
  | 0 => by
    show min (min N (min (cel N u i (j + 1 - (0 + 1))).m (cel N u i (j + 1 - (0 + 1))).i + 4 + 2 * (((0 : Nat) : Int) + 1))) (N + 2) = min N (min (min (cel N u i j).m (cel N u i j).i + 6) (N + 2))
    rw [show j + 1 - (0 + 1) = j by omega]
    generalize min (cel N u i j).m (cel N u i j).i = x
    omega
  | n + 1 => by
    have h := gapD_step N u i j n
    have e : j + 1 - (n + 1 + 1) = j - (n + 1) := by omega
    have e1 : gapD N u i j (n + 1) = min (gapD N u i j n) (min (cel N u i (j - (n + 1))).m (cel N u i (j - (n + 1))).i + 4 + 2 * ((n : Int) + 1)) := rfl
    have e2 : gapD N u i (j + 1) (n + 1 + 1) = min (gapD N u i (j + 1) (n + 1)) (min (cel N u i (j - (n + 1))).m (cel N u i (j - (n + 1))).i + 4 + 2 * (((n + 1 : Nat) : Int) + 1)) := by
      rw [← e]; rfl
    rw [e2, e1]
    generalize min (cel N u i (j - (n + 1))).m (cel N u i (j - (n + 1))).i = y at *
    generalize min (cel N u i j).m (cel N u i j).i = x at *
    generalize gapD N u i (j + 1) (n + 1) = a at *
    generalize gapD N u i j n = b at *
    push_cast
    omega

theorem gapI_le (N : Int) (u : Nat → Nat → Int) (i j : Nat) : ∀ n, gapI N u i j n ≤ N
  | 0 => Int.le_refl _
  | n + 1 => Int.le_trans (Int.min_le_left _ _) (gapI_le N u i j n)

theorem gapD_le (N : Int) (u : Nat → Nat → Int) (i j : Nat) : ∀ n, gapD N u i j n ≤ N
  | 0 => Int.le_refl _
  | n + 1 => Int.le_trans (Int.min_le_left _ _) (gapD_le N u i j n)

/-- THE GAPS AS A WHOLE ARE WHAT THE LETTERS COST -/
theorem gapI_eq (N : Int) (hN : 10000 ≤ N) (u : Nat → Nat → Int) (hu : ∀ i j, 0 ≤ u i j ∧ u i j ≤ 4) (j : Nat) (hj : j ≤ 600) : ∀ i, i ≤ 300 → gapI N u i j i = (cel N u i j).i
  | 0, hi => by
    have h := (cel_ok N hN u hu 0 j hi hj).2.2.2.2.1 rfl
    rw [h]; rfl
  | i + 1, hi => by
    have h := gapI_step N u i j i
    have h2 := gapI_le N u (i + 1) j (i + 1)
    rw [gapI_eq N hN u hu j hj i (by omega)] at h
    have k0 := cel_ok N hN u hu i j (by omega) hj
    have e : (cel N u (i + 1) j).i = aI (cel N u i j) + 2 := by
      cases j with
      | zero => rw [cels0]
      | succ j => rw [celss]
    rw [e]
    generalize gapI N u (i + 1) j (i + 1) = a at *
    generalize cel N u i j = c at *
    obtain ⟨m, x, d⟩ := c
    unfold okC at k0
    simp only [aI] at *
    omega

theorem gapD_eq (N : Int) (hN : 10000 ≤ N) (u : Nat → Nat → Int) (hu : ∀ i j, 0 ≤ u i j ∧ u i j ≤ 4) (i : Nat) (hi : i ≤ 300) : ∀ j, j ≤ 600 → gapD N u i j j = (cel N u i j).d
  | 0, hj => by
    have h := (cel_ok N hN u hu i 0 hi hj).2.2.2.2.2.1 rfl
    rw [h]; rfl
  | j + 1, hj => by
    have h := gapD_step N u i j j
    have h2 := gapD_le N u i (j + 1) (j + 1)
    rw [gapD_eq N hN u hu i hi j (by omega)] at h
    have k0 := cel_ok N hN u hu i j hi (by omega)
    have e : (cel N u i (j + 1)).d = aD (cel N u i j) + 2 := by
      cases i with
      | zero => rw [cel0s]
      | succ i => rw [celss]
    rw [e]
    generalize gapD N u i (j + 1) (j + 1) = a at *
    generalize cel N u i j = c at *
    obtain ⟨m, x, d⟩ := c
    unfold okC at k0
    simp only [aD] at *
    omega
end Go.Proofs.YtilcmkiihefkkaaDoor
