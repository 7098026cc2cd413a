import Derived.Test.YtilcmkiihefkkaaDoorScA
set_option linter.unusedVariables false
set_option linter.unusedSimpArgs false
namespace Go.Proofs.YtilcmkiihefkkaaDoor

/-- the first of the least -/
def lt3 (a b c : Int) : Nat := if a ≤ b ∧ a ≤ c then 0 else if b ≤ c then 1 else 2

/-- the letter ahead of the next one -/
def nx (c : C3) : Nat → Nat
  | 0 => lt3 c.m c.i c.d
  | 1 => lt3 (c.m + 4) c.i (c.d + 4)
  | _ => lt3 (c.m + 4) (c.i + 4) c.d

/-- the letters of the script, from its end -/
def path (N : Int) (u : Nat → Nat → Int) : Nat → Nat → Nat → Nat → List Nat
  | 0, _, _, _ => []
  | f + 1, i, j, x => if i + j = 0 then [] else
    nx (cel N u i j) x :: path N u f (if nx (cel N u i j) x = 2 then i else i - 1) (if nx (cel N u i j) x = 1 then j else j - 1) (nx (cel N u i j) x)

/-- two cells that differ in what can't be had alone -/
def sameC (c c' : C3) (i j : Nat) : Prop := (0 < i → c.i = c'.i) ∧ (0 < j → c.d = c'.d) ∧ (0 < i → 0 < j → c.m = c'.m)

theorem mins_same (N N' : Int) (hN : 10000 ≤ N) (hN' : 10000 ≤ N') (i j : Nat) (hi : i ≤ 300) (hj : j ≤ 600) (c c' : C3) (h : okC N c i j) (h' : okC N' c' i j) (hs : sameC c c' i j) :
    aM c = aM c' ∧ aI c = aI c' ∧ aD c = aD c' ∧ (0 < i + j → ∀ x, nx c x = nx c' x) := by
  obtain ⟨m, y, d⟩ := c
  obtain ⟨m', y', d'⟩ := c'
  unfold okC at h h'
  unfold sameC at hs
  simp only at h h' hs
  obtain ⟨a1, a2, a3, a4, a5, a6, a7, a8, a9, a10, a11, a12⟩ := h
  obtain ⟨b1, b2, b3, b4, b5, b6, b7, b8, b9, b10, b11, b12⟩ := h'
  obtain ⟨s1, s2, s3⟩ := hs
  by_cases h0 : i = 0
  · by_cases h1 : j = 0
    · have e1 := a5 h0; have e2 := a6 h1; have e3 := a12 h0 h1
      have f1 := b5 h0; have f2 := b6 h1; have f3 := b12 h0 h1
      simp only [aM, aI, aD]
      refine ⟨by omega, by omega, by omega, fun hp => absurd hp (by omega)⟩
    · have hj0 : 0 < j := by omega
      have e1 := a5 h0; have e2 := a8 hj0; have e3 := a10 h0 hj0
      have f1 := b5 h0; have f2 := b8 hj0; have f3 := b10 h0 hj0
      have g := s2 hj0
      simp only [aM, aI, aD]
      refine ⟨by omega, by omega, by omega, fun hp x => ?_⟩
      rcases x with _ | _ | x <;> simp only [nx, lt3] <;> (repeat' split) <;> omega
  · have hi0 : 0 < i := by omega
    by_cases h1 : j = 0
    · have e1 := a7 hi0; have e2 := a6 h1; have e3 := a11 hi0 h1
      have f1 := b7 hi0; have f2 := b6 h1; have f3 := b11 hi0 h1
      have g := s1 hi0
      simp only [aM, aI, aD]
      refine ⟨by omega, by omega, by omega, fun hp x => ?_⟩
      rcases x with _ | _ | x <;> simp only [nx, lt3] <;> (repeat' split) <;> omega
    · have hj0 : 0 < j := by omega
      have g1 := s1 hi0; have g2 := s2 hj0; have g3 := s3 hi0 hj0
      subst g1 g2 g3
      exact ⟨rfl, rfl, rfl, fun _ _ => rfl⟩

theorem cel_same (N N' : Int) (hN : 10000 ≤ N) (hN' : 10000 ≤ N') (u : Nat → Nat → Int) (hu : ∀ i j, 0 ≤ u i j ∧ u i j ≤ 4) : ∀ i j, i ≤ 300 → j ≤ 600 → sameC (cel N u i j) (cel N' u i j) i j := by
  intro i
  induction i with
  | zero =>
    intro j
    induction j with
    | zero => intro _ _; exact ⟨fun h => absurd h (by simp), fun h => absurd h (by simp), fun h => absurd h (by simp)⟩
    | succ j ih =>
      intro hi hj
      have h := mins_same N N' hN hN' 0 j hi (by omega) _ _ (cel_ok N hN u hu 0 j hi (by omega)) (cel_ok N' hN' u hu 0 j hi (by omega)) (ih hi (by omega))
      refine ⟨fun h => absurd h (by simp), fun _ => ?_, fun h => absurd h (by simp)⟩
      rw [cel0s, cel0s]
      show aD _ + 2 = aD _ + 2
      rw [h.2.2.1]
  | succ i ihi =>
    intro j
    induction j with
    | zero =>
      intro hi hj
      have h := mins_same N N' hN hN' i 0 (by omega) hj _ _ (cel_ok N hN u hu i 0 (by omega) hj) (cel_ok N' hN' u hu i 0 (by omega) hj) (ihi 0 (by omega) hj)
      refine ⟨fun _ => ?_, fun h => absurd h (by simp), fun _ h => absurd h (by simp)⟩
      rw [cels0, cels0]
      show aI _ + 2 = aI _ + 2
      rw [h.2.1]
    | succ j ihj =>
      intro hi hj
      have h1 := mins_same N N' hN hN' i j (by omega) (by omega) _ _ (cel_ok N hN u hu i j (by omega) (by omega)) (cel_ok N' hN' u hu i j (by omega) (by omega)) (ihi j (by omega) (by omega))
      have h2 := mins_same N N' hN hN' i (j + 1) (by omega) hj _ _ (cel_ok N hN u hu i (j + 1) (by omega) hj) (cel_ok N' hN' u hu i (j + 1) (by omega) hj) (ihi (j + 1) (by omega) hj)
      have h3 := mins_same N N' hN hN' (i + 1) j hi (by omega) _ _ (cel_ok N hN u hu (i + 1) j hi (by omega)) (cel_ok N' hN' u hu (i + 1) j hi (by omega)) (ihj hi (by omega))
      rw [celss, celss]
      refine ⟨fun _ => ?_, fun _ => ?_, fun _ _ => ?_⟩
      · show aI _ + 2 = aI _ + 2
        rw [h2.2.1]
      · show aD _ + 2 = aD _ + 2
        rw [h3.2.2.1]
      · show aM _ + _ = aM _ + _
        rw [h1.1]

/-- THE SAME LETTERS, whatever stands for what can't be had -/
theorem path_same (N N' : Int) (hN : 10000 ≤ N) (hN' : 10000 ≤ N') (u : Nat → Nat → Int) (hu : ∀ i j, 0 ≤ u i j ∧ u i j ≤ 4) : ∀ f i j x, i ≤ 300 → j ≤ 600 → path N u f i j x = path N' u f i j x
  | 0, _, _, _, _, _ => rfl
  | f + 1, i, j, x, hi, hj => by
    unfold path
    by_cases h0 : i + j = 0
    · rw [if_pos h0, if_pos h0]
    · rw [if_neg h0, if_neg h0]
      have h := (mins_same N N' hN hN' i j hi hj _ _ (cel_ok N hN u hu i j hi hj) (cel_ok N' hN' u hu i j hi hj) (cel_same N N' hN hN' u hu i j hi hj)).2.2.2 (by omega) x
      rw [h]
      rw [path_same N N' hN hN' u hu f _ _ _ (by split <;> omega) (by split <;> omega)]

/-- what a letter costs at a place -/
def pv (c : C3) : Nat → Int
  | 0 => c.m
  | 1 => c.i
  | _ => c.d

/-- the letters, found by what is left of the cost -/
def rpath (N : Int) (u : Nat → Nat → Int) : Nat → Nat → Nat → Nat → Int → List Nat
  | 0, _, _, _, _ => []
  | f + 1, i, j, 0, cost => if i + j = 0 then [] else
    0 :: rpath N u f (i - 1) (j - 1) (if (cel N u (i - 1) (j - 1)).m = cost - u (i - 1) (j - 1) then 0 else if (cel N u (i - 1) (j - 1)).i = cost - u (i - 1) (j - 1) then 1 else 2) (cost - u (i - 1) (j - 1))
  | f + 1, i, j, 1, cost => if i + j = 0 then [] else
    1 :: (if (cel N u (i - 1) j).m + 6 = cost then rpath N u f (i - 1) j 0 (cost - 6) else if (cel N u (i - 1) j).i + 2 = cost then rpath N u f (i - 1) j 1 (cost - 2) else rpath N u f (i - 1) j 2 (cost - 6))
  | f + 1, i, j, l + 2, cost => if i + j = 0 then [] else
    2 :: (if (cel N u i (j - 1)).m + 6 = cost then rpath N u f i (j - 1) 0 (cost - 6) else if (cel N u i (j - 1)).i + 6 = cost then rpath N u f i (j - 1) 1 (cost - 6) else rpath N u f i (j - 1) 2 (cost - 2))
end Go.Proofs.YtilcmkiihefkkaaDoor
