import Derived.Test.YtilcmkiihefkkabGreatDoorProg
section
set_option linter.unusedVariables false
set_option linter.unusedSimpArgs false
namespace Go.Proofs.YtilcmkiihefkkabGreatDoor
/-- what the cheapest scripts to a place cost, by the letter that they end with -/
structure C3 where
  m : Int
  i : Int
  d : Int
def aM (c : C3) : Int := min c.m (min c.i c.d)
def aI (c : C3) : Int := min (c.m + 4) (min c.i (c.d + 4))
def aD (c : C3) : Int := min (c.m + 4) (min (c.i + 4) c.d)
/-- the first row; N: more than any script costs -/
def row0 (N : Int) : Nat → C3
  | 0 => ⟨0, N, N⟩
  | j + 1 => ⟨N, N, aD (row0 N j) + 2⟩
/-- the row behind a row; u: what a pair of bases costs -/
def rowS (N : Int) (u : Nat → Int) (p : Nat → C3) : Nat → C3
  | 0 => ⟨N, aI (p 0) + 2, N⟩
  | j + 1 => ⟨aM (p j) + u j, aI (p (j + 1)) + 2, aD (rowS N u p j) + 2⟩
def cel (N : Int) (u : Nat → Nat → Int) : Nat → Nat → C3
  | 0 => row0 N
  | i + 1 => rowS N (u i) (cel N u i)
theorem cel00 (N : Int) (u : Nat → Nat → Int) : cel N u 0 0 = ⟨0, N, N⟩ := rfl
theorem cel0s (N : Int) (u : Nat → Nat → Int) (j : Nat) : cel N u 0 (j + 1) = ⟨N, N, aD (cel N u 0 j) + 2⟩ := rfl
theorem cels0 (N : Int) (u : Nat → Nat → Int) (i : Nat) : cel N u (i + 1) 0 = ⟨N, aI (cel N u i 0) + 2, N⟩ := rfl
theorem celss (N : Int) (u : Nat → Nat → Int) (i j : Nat) : cel N u (i + 1) (j + 1) = ⟨aM (cel N u i j) + u i j, aI (cel N u i (j + 1)) + 2, aD (cel N u (i + 1) j) + 2⟩ := rfl
/-- a cell's bounds: what can be had is small, what can't is N -/
def okC (N : Int) (c : C3) (i j : Nat) : Prop :=
  0 ≤ c.m ∧ 0 ≤ c.i ∧ 0 ≤ c.d ∧ (c.m ≤ 6 * ((i : Int) + j) ∨ c.i ≤ 6 * ((i : Int) + j) ∨ c.d ≤ 6 * ((i : Int) + j)) ∧ (i = 0 → c.i = N) ∧ (j = 0 → c.d = N) ∧ (0 < i → c.i ≤ 6 * ((i : Int) + j)) ∧ (0 < j → c.d ≤ 6 * ((i : Int) + j)) ∧
  (0 < i → 0 < j → c.m ≤ 6 * ((i : Int) + j)) ∧ (i = 0 → 0 < j → c.m = N) ∧ (0 < i → j = 0 → c.m = N) ∧ (i = 0 → j = 0 → c.m = 0)
theorem cel_ok (N : Int) (hN : 10000 ≤ N) (u : Nat → Nat → Int) (hu : ∀ i j, 0 ≤ u i j ∧ u i j ≤ 4) : ∀ i j, i ≤ 300 → j ≤ 600 → okC N (cel N u i j) i j := by
  intro i
  induction i with
  | zero =>
    intro j
    induction j with
    | zero =>
     intro _ _
     rw [cel00]; unfold okC; simp; omega
    | succ j ih =>
     intro hi hj
     have h := ih hi (by omega)
     rw [cel0s]
     generalize cel N u 0 j = c at h ⊢
     obtain ⟨m, i, d⟩ := c
     unfold okC at *
     simp only [aD] at *
     obtain ⟨a1, a2, a3, a4, a5, a6, a7, a8, a9, a10, a11, a12⟩ := h
     have b5 := a5 trivial
     have b8 : 0 < j → d ≤ 6 * (((0 : Nat) : Int) + j) := a8
     have b12 : j = 0 → m = 0 := a12 trivial
     have b13 : j = 0 ∨ 0 < j := by omega
     have b14 : d + 2 ≤ 6 * (((0 : Nat) : Int) + j) + 6 ∨ m + 6 ≤ 6 * (((0 : Nat) : Int) + j) + 6 := by
       rcases b13 with h | h
       · right; rw [b12 h]; omega
       · left; have := b8 h; omega
     clear a4 a5 a6 a7 a8 a9 a10 a11 a12 b8 b12
     refine ⟨?_, ?_, ?_, ?_, ?_, ?_, ?_, ?_, ?_, ?_, ?_, ?_⟩ <;> (try intros) <;> first | rfl | omega | (exfalso; omega) | (rename_i h; exact absurd h (by simp)) | (rename_i h h'; exact absurd h (by simp)) | (rename_i h h'; exact absurd h' (by simp))
  | succ i ihi =>
    intro j
    induction j with
    | zero =>
     intro hi hj
     have h := ihi 0 (by omega) hj
     rw [cels0]
     generalize cel N u i 0 = c at h ⊢
     obtain ⟨m, x, d⟩ := c
     unfold okC at *
     simp only [aI] at *
     obtain ⟨a1, a2, a3, a4, a5, a6, a7, a8, a9, a10, a11, a12⟩ := h
     have b5 := a6 trivial
     have b8 : 0 < i → x ≤ 6 * ((i : Int) + ((0 : Nat) : Int)) := a7
     have b12 : i = 0 → m = 0 := fun h => a12 h trivial
     have b13 : i = 0 ∨ 0 < i := by omega
     have b14 : x + 2 ≤ 6 * ((i : Int) + ((0 : Nat) : Int)) + 6 ∨ m + 6 ≤ 6 * ((i : Int) + ((0 : Nat) : Int)) + 6 := by
       rcases b13 with h | h
       · right; rw [b12 h]; omega
       · left; have := b8 h; omega
     clear a4 a5 a6 a7 a8 a9 a10 a11 a12 b8 b12
     refine ⟨?_, ?_, ?_, ?_, ?_, ?_, ?_, ?_, ?_, ?_, ?_, ?_⟩ <;> (try intros) <;> first | rfl | omega | (exfalso; omega) | (rename_i h; exact absurd h (by simp)) | (rename_i h h'; exact absurd h (by simp)) | (rename_i h h'; exact absurd h' (by simp))
    | succ j ihj =>
     intro hi hj
     have h1 := ihi j (by omega) (by omega)
     have h2 := ihi (j + 1) (by omega) hj
     have h3 := ihj hi (by omega)
     have h4 := hu i j
     rw [celss]
     generalize u i j = x at h4 ⊢
     generalize cel N u i j = c1 at h1 ⊢
     generalize cel N u i (j + 1) = c2 at h2 ⊢
     generalize cel N u (i + 1) j = c3 at h3 ⊢
     obtain ⟨m1, i1, d1⟩ := c1
     obtain ⟨m2, i2, d2⟩ := c2
     obtain ⟨m3, i3, d3⟩ := c3
     unfold okC at *
     simp only [aI, aD, aM] at *
     obtain ⟨a1, a2, a3, a4, -⟩ := h1
     obtain ⟨b1, b2, b3, b4, -, -, -, b5, -⟩ := h2
     obtain ⟨c1, c2, c3, c4, -, -, c5, -⟩ := h3
     have b6 := b5 (by omega)
     have c6 := c5 (by omega)
     refine ⟨?_, ?_, ?_, ?_, ?_, ?_, ?_, ?_, ?_, ?_, ?_, ?_⟩ <;> (try intros) <;> first | rfl | omega | (exfalso; omega) | (rename_i h; exact absurd h (by simp)) | (rename_i h h'; exact absurd h (by simp)) | (rename_i h h'; exact absurd h' (by simp))
end Go.Proofs.YtilcmkiihefkkabGreatDoor
end
section
set_option linter.unusedVariables false
set_option linter.unusedSimpArgs false
namespace Go.Proofs.YtilcmkiihefkkabGreatDoor
/-- the first of the least -/
def lt3 (a b c : Int) : Nat := if a ≤ b ∧ a ≤ c then 0 else if b ≤ c then 1 else 2
/-- the letter ahead of the next one -/
def nx (c : C3) : Nat → Nat
  | 0 => lt3 c.m c.i c.d
  | 1 => lt3 (c.m + 4) c.i (c.d + 4)
  | _ => lt3 (c.m + 4) (c.i + 4) c.d
/-- the letters of the script, from its end -/
def path (N : Int) (u : Nat → Nat → Int) : Nat → Nat → Nat → Nat → List Nat
  | 0, _, _, _ => []
  | f + 1, i, j, x => if i + j = 0 then [] else
    nx (cel N u i j) x :: path N u f (if nx (cel N u i j) x = 2 then i else i - 1) (if nx (cel N u i j) x = 1 then j else j - 1) (nx (cel N u i j) x)
/-- what a letter costs at a place -/
def pv (c : C3) : Nat → Int
  | 0 => c.m
  | 1 => c.i
  | _ => c.d
end Go.Proofs.YtilcmkiihefkkabGreatDoor
end
section
set_option linter.unusedVariables false
set_option linter.unusedSimpArgs false
namespace Go.Proofs.YtilcmkiihefkkabGreatDoor
theorem lt3_cases (a b c : Int) : (lt3 a b c = 0 ∧ a ≤ b ∧ a ≤ c) ∨ (lt3 a b c = 1 ∧ ¬ (a ≤ b ∧ a ≤ c) ∧ b ≤ c) ∨ (lt3 a b c = 2 ∧ ¬ (a ≤ b ∧ a ≤ c) ∧ ¬ b ≤ c) := by
  unfold lt3
  split
  · exact Or.inl ⟨rfl, ‹_›⟩
  · split
    · exact Or.inr (Or.inl ⟨rfl, ‹_›, ‹_›⟩)
    · exact Or.inr (Or.inr ⟨rfl, ‹_›, ‹_›⟩)
theorem nx_le (c : C3) (x : Nat) : nx c x ≤ 2 := by
  rcases x with _ | _ | x <;> simp only [nx]
  · rcases lt3_cases c.m c.i c.d with h | h | h <;> omega
  · rcases lt3_cases (c.m + 4) c.i (c.d + 4) with h | h | h <;> omega
  · rcases lt3_cases (c.m + 4) (c.i + 4) c.d with h | h | h <;> omega
/-- a letter is chosen only where it can be had -/
theorem nx_reach (N : Int) (hN : 10000 ≤ N) (c : C3) (i j : Nat) (hi : i ≤ 300) (hj : j ≤ 600) (h : okC N c i j) (hp : 0 < i + j) (x : Nat) :
    (nx c x = 0 → 0 < i ∧ 0 < j) ∧ (nx c x = 1 → 0 < i) ∧ (nx c x = 2 → 0 < j) := by
  obtain ⟨m, y, d⟩ := c
  unfold okC at h
  simp only at h
  obtain ⟨a1, a2, a3, a4, a5, a6, a7, a8, a9, a10, a11, a12⟩ := h
  by_cases h0 : i = 0
  · have hj0 : 0 < j := by omega
    have e1 := a5 h0; have e2 := a8 hj0; have e3 := a10 h0 hj0
    have hx : nx ⟨m, y, d⟩ x = 2 := by
      rcases x with _ | _ | x <;> simp only [nx]
      · rcases lt3_cases m y d with h | h | h <;> omega
      · rcases lt3_cases (m + 4) y (d + 4) with h | h | h <;> omega
      · rcases lt3_cases (m + 4) (y + 4) d with h | h | h <;> omega
    rw [hx]
    exact ⟨fun h => absurd h (by decide), fun h => absurd h (by decide), fun _ => hj0⟩
  · have hi0 : 0 < i := by omega
    by_cases h1 : j = 0
    · have e1 := a7 hi0; have e2 := a6 h1; have e3 := a11 hi0 h1
      have hx : nx ⟨m, y, d⟩ x = 1 := by
        rcases x with _ | _ | x <;> simp only [nx]
        · rcases lt3_cases m y d with h | h | h <;> omega
        · rcases lt3_cases (m + 4) y (d + 4) with h | h | h <;> omega
        · rcases lt3_cases (m + 4) (y + 4) d with h | h | h <;> omega
      rw [hx]
      exact ⟨fun h => absurd h (by decide), fun _ => hi0, fun h => absurd h (by decide)⟩
    · have hj0 : 0 < j := by omega
      exact ⟨fun _ => ⟨hi0, hj0⟩, fun _ => hi0, fun _ => hj0⟩
end Go.Proofs.YtilcmkiihefkkabGreatDoor
end
section
set_option linter.unusedVariables false
set_option linter.unusedSimpArgs false
namespace Go.Proofs.YtilcmkiihefkkabGreatDoor
/-- letters from the end that lead from a place to the beginning -/
def ends : List Nat → Nat → Nat → Prop
  | [], i, j => i = 0 ∧ j = 0
  | l :: t, i, j => l ≤ 2 ∧ (l ≠ 2 → 0 < i) ∧ (l ≠ 1 → 0 < j) ∧ ends t (if l = 2 then i else i - 1) (if l = 1 then j else j - 1)
theorem path_ends (N : Int) (hN : 10000 ≤ N) (u : Nat → Nat → Int) (hu : ∀ i j, 0 ≤ u i j ∧ u i j ≤ 4) : ∀ f i j x, i ≤ 300 → j ≤ 600 → i + j ≤ f → ends (path N u f i j x) i j
  | 0, i, j, x, _, _, hf => by
    unfold path
    exact ⟨by omega, by omega⟩
  | f + 1, i, j, x, hi, hj, hf => by
    unfold path
    by_cases h0 : i + j = 0
    · rw [if_pos h0]; exact ⟨by omega, by omega⟩
    · rw [if_neg h0]
      have hr := nx_reach N hN _ i j hi hj (cel_ok N hN u hu i j hi hj) (by omega) x
      have hl := nx_le (cel N u i j) x
      generalize nx (cel N u i j) x = l at hl hr ⊢
      obtain ⟨r0, r1, r2⟩ := hr
      refine ⟨hl, fun h => ?_, fun h => ?_, path_ends N hN u hu f _ _ _ (by split <;> omega) (by split <;> omega) ?_⟩
      · rcases (show l = 0 ∨ l = 1 by omega) with h | h
        · exact (r0 h).1
        · exact r1 h
      · rcases (show l = 0 ∨ l = 2 by omega) with h | h
        · exact (r0 h).2
        · exact r2 h
      · rcases (show l = 0 ∨ l = 1 ∨ l = 2 by omega) with h | h | h
        · have := r0 h; subst h; simp; omega
        · have := r1 h; subst h; simp; omega
        · have := r2 h; subst h; simp; omega
/-- a step from the beginning -/
def stF (p : Nat × Nat) (l : Nat) : Nat × Nat := (if l = 2 then p.1 else p.1 + 1, if l = 1 then p.2 else p.2 + 1)
/-- pairs alike, counted from the end -/
def cntB (s : Nat → Nat → Bool) : List Nat → Nat → Nat → Nat
  | [], _, _ => 0
  | l :: t, i, j => (if l = 0 ∧ s (i - 1) (j - 1) = true then 1 else 0) + cntB s t (if l = 2 then i else i - 1) (if l = 1 then j else j - 1)
/-- pairs alike, counted from the beginning -/
def cntF (s : Nat → Nat → Bool) : List Nat → Nat × Nat → Nat
  | [], _ => 0
  | l :: t, p => (if l = 0 ∧ s p.1 p.2 = true then 1 else 0) + cntF s t (stF p l)
theorem cntF_app (s : Nat → Nat → Bool) (l : Nat) : ∀ (a : List Nat) (p : Nat × Nat), cntF s (a ++ [l]) p = cntF s a p + (if l = 0 ∧ s (a.foldl stF p).1 (a.foldl stF p).2 = true then 1 else 0)
  | [], p => by
    show (if l = 0 ∧ s p.1 p.2 = true then 1 else 0) + 0 = 0 + (if l = 0 ∧ s p.1 p.2 = true then 1 else 0)
    rw [Nat.add_comm]
  | x :: a, p => by
    show (if x = 0 ∧ s p.1 p.2 = true then 1 else 0) + cntF s (a ++ [l]) (stF p x) = (if x = 0 ∧ s p.1 p.2 = true then 1 else 0) + cntF s a (stF p x) + _
    rw [cntF_app s l a (stF p x), Nat.add_assoc]
    rfl
end Go.Proofs.YtilcmkiihefkkabGreatDoor
end
section
set_option linter.unusedVariables false
set_option linter.unusedSimpArgs false
namespace Go.Proofs.YtilcmkiihefkkabGreatDoor
/-- the runs of the first k letters: where the run that is under way begins, and those that are done -/
def rl (L : List Nat) : Nat → Nat × List (Nat × Nat)
  | 0 => (0, [])
  | k + 1 => if k + 1 = L.length ∨ L.getD (k + 1) 9 ≠ L.getD k 9 then (k + 1, (rl L k).2 ++ [(k + 1 - (rl L k).1, L.getD k 9)]) else rl L k
theorem rl_from (L : List Nat) : ∀ k, (rl L k).1 ≤ k ∧ (k < L.length → ∀ t, (rl L k).1 ≤ t → t ≤ k → L.getD t 9 = L.getD (rl L k).1 9)
  | 0 => ⟨Nat.le_refl _, fun _ t h1 h2 => by
    have : t = 0 := by omega
    subst this; rfl⟩
  | k + 1 => by
    have ih := rl_from L k
    have e : rl L (k + 1) = if k + 1 = L.length ∨ L.getD (k + 1) 9 ≠ L.getD k 9 then (k + 1, (rl L k).2 ++ [(k + 1 - (rl L k).1, L.getD k 9)]) else rl L k := rfl
    by_cases hc : k + 1 = L.length ∨ L.getD (k + 1) 9 ≠ L.getD k 9
    · rw [e, if_pos hc]
      refine ⟨Nat.le_refl _, fun _ t h1 h2 => ?_⟩
      have : t = k + 1 := by
        have h1' : k + 1 ≤ t := h1
        omega
      subst this; rfl
    · rw [e, if_neg hc]
      refine ⟨by omega, fun hk t h1 h2 => ?_⟩
      have hk2 : k < L.length := by omega
      have i2 := ih.2 hk2
      by_cases ht : t ≤ k
      · exact i2 t h1 ht
      · have : t = k + 1 := by omega
        subst this
        have hq : L.getD (k + 1) 9 = L.getD k 9 := Classical.byContradiction fun h => hc (Or.inr h)
        rw [hq]
        exact i2 k ih.1 (Nat.le_refl _)
/-- the end of a run, told by its first letter -/
theorem rl_cond (L : List Nat) (k : Nat) (hk : k < L.length) : (k + 1 < L.length ∧ L.getD (k + 1) 9 = L.getD (rl L k).1 9) ↔ ¬ (k + 1 = L.length ∨ L.getD (k + 1) 9 ≠ L.getD k 9) := by
  have ih := rl_from L k
  have e : L.getD k 9 = L.getD (rl L k).1 9 := ih.2 hk k ih.1 (Nat.le_refl _)
  rw [e]
  constructor
  · rintro ⟨h1, h2⟩ (h | h)
    · omega
    · exact h h2
  · intro h
    refine ⟨?_, Classical.byContradiction fun h' => h (Or.inr h')⟩
    have : k + 1 ≠ L.length := fun h' => h (Or.inl h')
    omega
theorem rl_letter (L : List Nat) (k : Nat) (hk : k < L.length) : L.getD k 9 = L.getD (rl L k).1 9 := (rl_from L k).2 hk k (rl_from L k).1 (Nat.le_refl _)
/-- a run's length and letter are small -/
theorem rl_small (L : List Nat) (n : Nat) (hn : L.length ≤ n) (hl : ∀ x ∈ L, x ≤ 2) : ∀ k, k ≤ L.length → ∀ p ∈ (rl L k).2, 0 < p.1 ∧ p.1 ≤ n ∧ p.2 ≤ 2
  | 0, _, p, hp => by simp [rl] at hp
  | k + 1, hk, p, hp => by
    have e : rl L (k + 1) = if k + 1 = L.length ∨ L.getD (k + 1) 9 ≠ L.getD k 9 then (k + 1, (rl L k).2 ++ [(k + 1 - (rl L k).1, L.getD k 9)]) else rl L k := rfl
    rw [e] at hp
    have ih := rl_small L n hn hl k (by omega)
    split at hp
    · rw [List.mem_append, List.mem_singleton] at hp
      rcases hp with hp | rfl
      · exact ih p hp
      · have h1 := (rl_from L k).1
        have h2 : L.getD k 9 = L[k] := by simp [show k < L.length by omega]
        refine ⟨by show 0 < k + 1 - _; omega, by show k + 1 - _ ≤ n; omega, ?_⟩
        show L.getD k 9 ≤ 2
        rw [h2]; exact hl _ (List.getElem_mem _)
    · exact ih p hp
end Go.Proofs.YtilcmkiihefkkabGreatDoor
end
section
set_option linter.unusedVariables false
set_option linter.unusedSimpArgs false
namespace Go.Proofs.YtilcmkiihefkkabGreatDoor
/-- what it costs that the next letter begins a run -/
def jn (x : Nat) (t : List Nat) : Int := if x = 0 ∨ t.head? = some x then 0 else 4
/-- what letters (from the end) cost -/
def cst (u : Nat → Nat → Int) : List Nat → Nat → Nat → Int
  | [], _, _ => 0
  | l :: t, i, j => (if l = 0 then u (i - 1) (j - 1) else 2 + jn l t) + cst u t (if l = 2 then i else i - 1) (if l = 1 then j else j - 1)
/-- the least, given the next letter -/
def avc (c : C3) : Nat → Int
  | 0 => aM c
  | 1 => aI c
  | _ => aD c
/-- a letter's cell by the cell ahead of it -/
theorem pv_step (N : Int) (u : Nat → Nat → Int) (l i j : Nat) (hl : l ≤ 2) (h2 : l ≠ 2 → 0 < i) (h3 : l ≠ 1 → 0 < j) :
    pv (cel N u i j) l = avc (cel N u (if l = 2 then i else i - 1) (if l = 1 then j else j - 1)) l + (if l = 0 then u (i - 1) (j - 1) else 2) := by
  rcases (show l = 0 ∨ l = 1 ∨ l = 2 by omega) with h | h | h
  · subst h
    obtain ⟨i, rfl⟩ : ∃ k, i = k + 1 := ⟨i - 1, by have := h2 (by decide); omega⟩
    obtain ⟨j, rfl⟩ : ∃ k, j = k + 1 := ⟨j - 1, by have := h3 (by decide); omega⟩
    rw [celss]
    simp [pv, avc]
  · subst h
    obtain ⟨i, rfl⟩ : ∃ k, i = k + 1 := ⟨i - 1, by have := h2 (by decide); omega⟩
    cases j with
    | zero => rw [cels0]; simp [pv, avc]
    | succ j => rw [celss]; simp [pv, avc]
  · subst h
    obtain ⟨j, rfl⟩ : ∃ k, j = k + 1 := ⟨j - 1, by have := h3 (by decide); omega⟩
    cases i with
    | zero => rw [cel0s]; simp [pv, avc]
    | succ i => rw [celss]; simp [pv, avc]
theorem avc_le (c : C3) (x l : Nat) (t : List Nat) (hx : x ≤ 2) (hl : l ≤ 2) : avc c x ≤ pv c l + jn x (l :: t) := by
  obtain ⟨m, y, d⟩ := c
  rcases (show x = 0 ∨ x = 1 ∨ x = 2 by omega) with h | h | h <;> rcases (show l = 0 ∨ l = 1 ∨ l = 2 by omega) with h' | h' | h' <;> subst h h' <;> simp [avc, pv, jn, aM, aI, aD] <;> omega
/-- NO LETTERS COST LESS -/
theorem cst_ge (N : Int) (hN : 10000 ≤ N) (u : Nat → Nat → Int) : ∀ (t : List Nat) (i j x : Nat), x ≤ 2 → ends t i j → avc (cel N u i j) x ≤ jn x t + cst u t i j
  | [], i, j, x, hx, h => by
    rw [h.1, h.2, cel00]
    rcases (show x = 0 ∨ x = 1 ∨ x = 2 by omega) with h | h | h <;> subst h <;> simp [avc, jn, cst, aM, aI, aD] <;> omega
  | l :: t, i, j, x, hx, h => by
    obtain ⟨h1, h2, h3, h4⟩ := h
    have ih := cst_ge N hN u t _ _ l h1 h4
    have e1 := pv_step N u l i j h1 h2 h3
    have e2 := avc_le (cel N u i j) x l t hx h1
    show _ ≤ jn x (l :: t) + ((if l = 0 then u (i - 1) (j - 1) else 2 + jn l t) + cst u t (if l = 2 then i else i - 1) (if l = 1 then j else j - 1))
    have e3 : (if l = 0 then u (i - 1) (j - 1) else 2 + jn l t) = (if l = 0 then u (i - 1) (j - 1) else 2) + jn l t := by
      by_cases hl : l = 0
      · subst hl; simp [jn]
      · rw [if_neg hl, if_neg hl]
    rw [e3]
    omega
theorem nx_least (c : C3) (x : Nat) (t : List Nat) (hx : x ≤ 2) : pv c (nx c x) + jn x (nx c x :: t) = avc c x := by
  obtain ⟨m, y, d⟩ := c
  rcases (show x = 0 ∨ x = 1 ∨ x = 2 by omega) with hh | hh | hh <;> subst hh
  · rcases lt3_cases m y d with k | k | k <;> simp only [nx] <;> rw [k.1] <;> simp [avc, pv, jn, aM, aI, aD] <;> omega
  · rcases lt3_cases (m + 4) y (d + 4) with k | k | k <;> simp only [nx] <;> rw [k.1] <;> simp [avc, pv, jn, aM, aI, aD] <;> omega
  · rcases lt3_cases (m + 4) (y + 4) d with k | k | k <;> simp only [nx] <;> rw [k.1] <;> simp [avc, pv, jn, aM, aI, aD] <;> omega
theorem cst_cons (u : Nat → Nat → Int) (l : Nat) (t : List Nat) (i j : Nat) :
    cst u (l :: t) i j = (if l = 0 then u (i - 1) (j - 1) else 2) + (jn l t + cst u t (if l = 2 then i else i - 1) (if l = 1 then j else j - 1)) := by
  show (if l = 0 then u (i - 1) (j - 1) else 2 + jn l t) + _ = _
  by_cases hl : l = 0
  · subst hl; simp [jn]
  · rw [if_neg hl, if_neg hl]; omega
/-- WHAT THE SCRIPT COSTS: the least -/
theorem path_cost (N : Int) (hN : 10000 ≤ N) (u : Nat → Nat → Int) (hu : ∀ i j, 0 ≤ u i j ∧ u i j ≤ 4) : ∀ f i j x, i ≤ 300 → j ≤ 600 → i + j ≤ f → x ≤ 2 →
    jn x (path N u f i j x) + cst u (path N u f i j x) i j = avc (cel N u i j) x
  | 0, i, j, x, hi, hj, hf, hx => by
    have e1 : i = 0 := by omega
    have e2 : j = 0 := by omega
    subst e1 e2
    rw [cel00]
    rcases (show x = 0 ∨ x = 1 ∨ x = 2 by omega) with h | h | h <;> subst h <;> simp [path, avc, jn, cst, aM, aI, aD] <;> omega
  | f + 1, i, j, x, hi, hj, hf, hx => by
    by_cases h0 : i + j = 0
    · have e1 : i = 0 := by omega
      have e2 : j = 0 := by omega
      subst e1 e2
      rw [cel00]
      rcases (show x = 0 ∨ x = 1 ∨ x = 2 by omega) with h | h | h <;> subst h <;> simp [path, avc, jn, cst, aM, aI, aD] <;> omega
    · have he := path_ends N hN u hu (f + 1) i j x hi hj hf
      have ep : path N u (f + 1) i j x = nx (cel N u i j) x :: path N u f (if nx (cel N u i j) x = 2 then i else i - 1) (if nx (cel N u i j) x = 1 then j else j - 1) (nx (cel N u i j) x) := by
        show (if i + j = 0 then [] else _) = _
        rw [if_neg h0]
      rw [ep] at he ⊢
      obtain ⟨h1, h2, h3, h4⟩ := he
      have e1 := pv_step N u _ i j h1 h2 h3
      have e2 := fun t => nx_least (cel N u i j) x t hx
      generalize nx (cel N u i j) x = l at *
      have ih := path_cost N hN u hu f (if l = 2 then i else i - 1) (if l = 1 then j else j - 1) l (by split <;> omega) (by split <;> omega) (by
        rcases (show l = 0 ∨ l = 1 ∨ l = 2 by omega) with h | h | h
        · subst h; have := h2 (by decide); simp; omega
        · subst h; have := h2 (by decide); simp; omega
        · subst h; have := h3 (by decide); simp; omega) h1
      have e3 := e2 (path N u f (if l = 2 then i else i - 1) (if l = 1 then j else j - 1) l)
      rw [cst_cons]
      omega
end Go.Proofs.YtilcmkiihefkkabGreatDoor
end
