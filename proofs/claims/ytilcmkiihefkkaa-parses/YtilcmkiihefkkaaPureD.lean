import Derived.Test.YtilcmkiihefkkaaPureC
set_option linter.unusedVariables false
set_option linter.unusedSimpArgs false
set_option maxRecDepth 100000
namespace Go.Proofs.Ytilcmkiihefkkaa

theorem isW_get (a : List Nat) (k p : Nat) : isW a k p = true ↔ (p + k ≤ a.length ∧ ∀ j, p ≤ j → j < p + k → a.getD j 0 < 4) := by
  unfold isW
  rw [Bool.and_eq_true, decide_eq_true_iff, List.all_eq_true]
  constructor
  · intro ⟨h1, h2⟩
    refine ⟨h1, fun j hj1 hj2 => ?_⟩
    have : a.getD j 0 ∈ seg a p k := by
      rw [List.getD_eq_getElem?_getD, List.getElem?_eq_getElem (by omega)]
      refine List.mem_iff_getElem.2 ⟨j - p, by rw [seg_length a p k h1]; omega, ?_⟩
      unfold seg
      rw [List.getElem_take, List.getElem_drop]
      simp [show p + (j - p) = j by omega]
    simpa using h2 _ this
  · intro ⟨h1, h2⟩
    refine ⟨h1, fun m hm => ?_⟩
    obtain ⟨i, hi, he⟩ := List.mem_iff_getElem.1 hm
    have hik : i < k := by rw [seg_length a p k h1] at hi; exact hi
    have := h2 (p + i) (by omega) (by omega)
    rw [List.getD_eq_getElem?_getD, List.getElem?_eq_getElem (by omega)] at this
    have e : (seg a p k)[i] = a[p + i] := by
      simp only [seg, List.getElem_take, List.getElem_drop]
    rw [← he, e]
    simpa using this

theorem win_letters (a : List Nat) (k W i : Nat) (hk : 1 ≤ k) (hW : 1 ≤ W) (h : i + k + W - 1 ≤ a.length) : IsWin a k W (i + W - 1) ↔ ∀ j, i ≤ j → j < i + k + W - 1 → a.getD j 0 < 4 := by
  constructor
  · intro ⟨h1, h2⟩ j hj1 hj2
    by_cases hj : j ≤ i + W - 1
    · have := ((isW_get a k j).1 (h2 j (by omega) hj)).2
      exact this j (Nat.le_refl _) (by omega)
    · have := ((isW_get a k (i + W - 1)).1 (h2 (i + W - 1) (by omega) (Nat.le_refl _))).2
      exact this j (by omega) (by omega)
  · intro h1
    refine ⟨by omega, fun j hj1 hj2 => (isW_get a k j).2 ⟨by omega, fun j' hj1' hj2' => h1 j' (by omega) (by omega)⟩⟩

/-- a word of a list -/
def at3 (A : List W3) (j : Nat) : W3 := A.getD j ⟨0, 0, false⟩

theorem at3_get (A : List W3) (j : Nat) (h : j < A.length) : at3 A j = A[j] := by
  unfold at3
  rw [List.getD_eq_getElem?_getD, List.getElem?_eq_getElem h]
  rfl

/-- the first of the least ones between two places, among so many -/
def bestN (A : List W3) (lo hi : Int) : Nat → Option Nat
  | 0 => none
  | j + 1 => if lo ≤ (at3 A j).p ∧ (at3 A j).p < hi ∧ (∀ b, bestN A lo hi j = some b → (at3 A j).h < (at3 A b).h) then some j else bestN A lo hi j

theorem bestN_spec (A : List W3) (lo hi : Int) : ∀ j,
    (bestN A lo hi j = none → ∀ i, i < j → ¬ (lo ≤ (at3 A i).p ∧ (at3 A i).p < hi)) ∧
    (∀ b, bestN A lo hi j = some b → b < j ∧ lo ≤ (at3 A b).p ∧ (at3 A b).p < hi ∧ (∀ i, i < j → lo ≤ (at3 A i).p → (at3 A i).p < hi → (at3 A b).h ≤ (at3 A i).h) ∧ (∀ i, i < b → lo ≤ (at3 A i).p → (at3 A i).p < hi → (at3 A b).h < (at3 A i).h)) := by
  intro j
  induction j with
  | zero => exact ⟨fun _ i hi => absurd hi (by omega), fun b hb => by simp [bestN] at hb⟩
  | succ j ih =>
    obtain ⟨ih1, ih2⟩ := ih
    by_cases hc : lo ≤ (at3 A j).p ∧ (at3 A j).p < hi ∧ (∀ b, bestN A lo hi j = some b → (at3 A j).h < (at3 A b).h)
    · have e : bestN A lo hi (j + 1) = some j := by unfold bestN; rw [if_pos hc]
      rw [e]
      refine ⟨fun h => by simp at h, fun b hb => ?_⟩
      simp only [Option.some.injEq] at hb
      subst hb
      refine ⟨by omega, hc.1, hc.2.1, ?_, ?_⟩
      · intro i hij' h1 h2
        by_cases hij : i = j
        · subst hij; exact Int.le_refl _
        · cases hb : bestN A lo hi j with
          | none => exact absurd ⟨h1, h2⟩ (ih1 hb i (by omega))
          | some b =>
            have := (ih2 b hb).2.2.2.1 i (by omega) h1 h2
            have := hc.2.2 b hb
            omega
      · intro i hij' h1 h2
        cases hb : bestN A lo hi j with
        | none => exact absurd ⟨h1, h2⟩ (ih1 hb i (by omega))
        | some b =>
          have := (ih2 b hb).2.2.2.1 i (by omega) h1 h2
          have := hc.2.2 b hb
          omega
    · have e : bestN A lo hi (j + 1) = bestN A lo hi j := by
        rw [bestN, if_neg hc]
      rw [e]
      constructor
      · intro hn i hi ⟨h1, h2⟩
        by_cases hij : i = j
        · subst hij
          exact hc ⟨h1, h2, fun b hb => by rw [hn] at hb; simp at hb⟩
        · exact ih1 hn i (by omega) ⟨h1, h2⟩
      · intro b hb
        obtain ⟨q1, q2, q3, q4, q5⟩ := ih2 b hb
        refine ⟨by omega, q2, q3, ?_, q5⟩
        intro i hi h1 h2
        by_cases hij : i = j
        · subst hij
          rcases Int.lt_or_le (at3 A i).h (at3 A b).h with h | h
          · exact absurd ⟨h1, h2, fun b' hb' => by rw [hb] at hb'; cases hb'; exact h⟩ hc
          · exact h
        · exact q4 i (by omega) h1 h2

theorem allW_inc (a : List Nat) (k : Nat) : (allW a k).Pairwise (fun x y => x.p < y.p) := by
  unfold allW
  rw [List.pairwise_filterMap]
  refine List.Pairwise.imp ?_ List.pairwise_lt_range
  intro i j hij x hx y hy
  have := candW_p hx
  have := candW_p hy
  omega

theorem mem_allW (a : List Nat) (k : Nat) (hk : 1 ≤ k) (x : W3) : x ∈ allW a k ↔ ∃ i : Nat, candW a k i = some x := by
  unfold allW
  rw [List.mem_filterMap]
  constructor
  · intro ⟨i, _, h⟩
    exact ⟨i, h⟩
  · intro ⟨i, h⟩
    have := ((isW_get a k i).1 (candW_isW h)).1
    exact ⟨i, by simp; omega, h⟩

/-- what the law's own loop finds is what stands for the window -/
theorem best_stands (a : List Nat) (k W i : Nat) (hk : 1 ≤ k) (hW : 1 ≤ W) (hw : IsWin a k W (i + W - 1)) :
    (bestN (allW a k) i (i + W) (allW a k).length = none → ∀ x, ¬ Stands a k W (i + W - 1) x) ∧
    (∀ b, bestN (allW a k) i (i + W) (allW a k).length = some b → Stands a k W (i + W - 1) (at3 (allW a k) b)) := by
  have hsp := bestN_spec (allW a k) i (i + W) (allW a k).length
  constructor
  · intro hn x ⟨_, j, hj1, hj2, hj3, _⟩
    obtain ⟨q, hq, hqe⟩ := List.mem_iff_getElem.1 ((mem_allW a k hk x).2 ⟨j, hj3⟩)
    have hp := candW_p hj3
    refine hsp.1 hn q hq ?_
    rw [at3_get _ _ hq, hqe]
    omega
  · intro b hb
    obtain ⟨q1, q2, q3, q4, q5⟩ := hsp.2 b hb
    have hbm : at3 (allW a k) b ∈ allW a k := by rw [at3_get _ _ q1]; exact List.getElem_mem q1
    obtain ⟨ib, hib⟩ := (mem_allW a k hk _).1 hbm
    have hpb := candW_p hib
    refine ⟨hw, ib, by omega, by omega, hib, ?_, ?_⟩
    · intro j y hj1 hj2 hj3
      obtain ⟨q, hq, hqe⟩ := List.mem_iff_getElem.1 ((mem_allW a k hk y).2 ⟨j, hj3⟩)
      have hp := candW_p hj3
      have := q4 q hq (by rw [at3_get _ _ hq, hqe]; omega) (by rw [at3_get _ _ hq, hqe]; omega)
      rwa [at3_get _ q hq, hqe] at this
    · intro j y hj1 hj2 hj3
      obtain ⟨q, hq, hqe⟩ := List.mem_iff_getElem.1 ((mem_allW a k hk y).2 ⟨j, hj3⟩)
      have hp := candW_p hj3
      have hqb : q < b := by
        rcases Nat.lt_or_ge q b with h | h
        · exact h
        · exfalso
          have hle : (at3 (allW a k) b).p ≤ y.p := by
            rw [at3_get _ _ q1, ← hqe]
            by_cases he : b = q
            · subst he; exact Int.le_refl _
            · have := List.pairwise_iff_getElem.1 (allW_inc a k) b q q1 hq (by omega)
              omega
          omega
      have := q5 q hqb (by rw [at3_get _ _ hq, hqe]; omega) (by rw [at3_get _ _ hq, hqe]; omega)
      rwa [at3_get _ q hq, hqe] at this

/-- two rising lists of the same words are one -/
theorem inc_ext : ∀ (A B : List W3), A.Pairwise (fun x y => x.p < y.p) → B.Pairwise (fun x y => x.p < y.p) → (∀ x, x ∈ A ↔ x ∈ B) → A = B
  | [], [], _, _, _ => rfl
  | [], y :: B, _, _, h => absurd ((h y).2 (by simp)) (by simp)
  | x :: A, [], _, _, h => absurd ((h x).1 (by simp)) (by simp)
  | x :: A, y :: B, h1, h2, h => by
    rw [List.pairwise_cons] at h1 h2
    have hxy : x = y := by
      have a1 := (h x).1 (by simp)
      have a2 := (h y).2 (by simp)
      rw [List.mem_cons] at a1 a2
      rcases a1 with a1 | a1
      · exact a1
      · rcases a2 with a2 | a2
        · exact a2.symm
        · have := h1.1 y a2
          have := h2.1 x a1
          omega
    subst hxy
    rw [inc_ext A B h1.2 h2.2 (fun z => ?_)]
    constructor
    · intro hz
      have := (h z).1 (List.mem_cons_of_mem _ hz)
      rw [List.mem_cons] at this
      rcases this with rfl | this
      · have := h1.1 z hz; omega
      · exact this
    · intro hz
      have := (h z).2 (List.mem_cons_of_mem _ hz)
      rw [List.mem_cons] at this
      rcases this with rfl | this
      · have := h2.1 z hz; omega
      · exact this

theorem wordsW (k W : Nat) (hk1 : 1 ≤ k) (hk2 : k ≤ 12) (l : List UInt8) (hg : ∀ i, i < l.length → 0 ≤ numb (l.getD i 0)) :
    (scRun k W l l.length).M = (pkRun k W (nums l) (l.length + 1 - k)).M := by
  have h := (scRun_pk k W hk1 hk2 l hg (nums_lt5 l) l.length (Nat.le_refl _)).2
  exact congrArg PkSt.M h

/-- the words that stand for windows: those of all words of which the law's own marks say so -/
theorem words_filter (a : List Nat) (k W : Nat) (hk : 1 ≤ k) (hW : 1 ≤ W) (f : Nat → Bool) (m : Nat) (hm : a.length < m + k + W - 1) (hm2 : ∀ i, i < m → i + k + W - 1 ≤ a.length)
    (hf : ∀ p : Nat, f p = true ↔ ∃ i, i < m ∧ ∃ x, Stands a k W (i + W - 1) x ∧ x.p = p) :
    (pkRun k W a (a.length + 1 - k)).M = (allW a k).filter (fun x => f x.p.toNat) := by
  have hpk := pkI a k W hW (a.length + 1 - k)
  refine inc_ext _ _ hpk.inc ((allW_inc a k).filter _) ?_
  intro x
  rw [List.mem_filter, mem_allW a k hk]
  constructor
  · intro hx
    obtain ⟨e, he, hs⟩ := hpk.mem x hx
    have hs' := hs
    obtain ⟨⟨hw1, hw2⟩, i, hi1, hi2, hi3, _⟩ := hs'
    have hp := candW_p hi3
    have hlast := ((isW_get a k e).1 (hw2 e (by omega) (Nat.le_refl _))).1
    refine ⟨⟨i, hi3⟩, (hf _).2 ⟨e + 1 - W, by omega, x, ?_, by omega⟩⟩
    rw [show e + 1 - W + W - 1 = e by omega]
    exact hs
  · intro ⟨⟨i, hi⟩, hfx⟩
    obtain ⟨j, hj, y, hy, hyp⟩ := (hf _).1 hfx
    have hp := candW_p hi
    have hxy : y = x := by
      obtain ⟨_, j', _, _, hj', _⟩ := hy
      have := candW_p hj'
      have e : j' = i := by omega
      subst e
      rw [hi] at hj'
      exact (Option.some.inj hj').symm
    subst hxy
    have := hm2 j hj
    exact hpk.all _ _ (by omega) hy

end Go.Proofs.Ytilcmkiihefkkaa
