import Derived.Test.YtilcmkiihefkkabGreatDoorJk38
section
set_option linter.unusedVariables false
set_option linter.unusedSimpArgs false
namespace Go.Proofs.YtilcmkiihefkkabGreatDoor.Mn
def A0 : Int × Int := (0, 0)
/-- what the first i + 1 anchors of a chain are worth, in quarters -/
def wqs (k : Int) (C : List (Int × Int)) : Nat → Int
  | 0 => 4 * k
  | i + 1 => wqs k C i + qtr (C.getD i A0) (C.getD (i + 1) A0) k
/-- each step rises -/
def risN (C : List (Int × Int)) (m : Nat) : Prop := ∀ i, i + 1 < m → fol (C.getD i A0) (C.getD (i + 1) A0)
theorem bst_from (k : Int) (x : Int × Int) (T : List Lk) : ∀ m, ((bst k x T m).2 = -1 ∧ (bst k x T m).1 = 4 * k) ∨ ∃ j : Nat, j < m ∧ (bst k x T m).2 = j ∧ fol (T.getD j Lk0).a x ∧ (bst k x T m).1 = (T.getD j Lk0).q + qtr (T.getD j Lk0).a x k
  | 0 => Or.inl ⟨rfl, rfl⟩
  | m + 1 => by
    unfold bst
    split
    · rename_i hc
      exact Or.inr ⟨m, by omega, rfl, hc.1, rfl⟩
    · rcases bst_from k x T m with h | ⟨j, h1, h2⟩
      · exact Or.inl h
      · exact Or.inr ⟨j, by omega, h2⟩
theorem tb_full (k : Int) (S : List (Int × Int)) (n i : Nat) (hi : i < n) : (tb k S n).getD i Lk0 = ⟨S.getD i (0, 0), (bst k (S.getD i (0, 0)) (tb k S n) i).1, (bst k (S.getD i (0, 0)) (tb k S n) i).2⟩ := by
  have e := bst_congr k (S.getD i (0, 0)) (tb k S i) (tb k S n) i (fun j hj => by rw [tb_getD k S j i hj, tb_getD k S j n (by omega)])
  rw [tb_getD k S i n hi, e]
theorem getD_app_l (A B : List (Int × Int)) (i : Nat) (h : i < A.length) : (A ++ B).getD i A0 = A.getD i A0 := by
  rw [List.getD_eq_getElem?_getD, List.getElem?_append_left h, ← List.getD_eq_getElem?_getD]
theorem wqs_app (k : Int) (A B : List (Int × Int)) : ∀ i, i < A.length → wqs k (A ++ B) i = wqs k A i
  | 0, _ => rfl
  | i + 1, h => by
    show wqs k (A ++ B) i + _ = wqs k A i + _
    rw [wqs_app k A B i (by omega), getD_app_l A B i (by omega), getD_app_l A B (i + 1) h]
/-- the way back from a link, read forwards: it rises, and is worth the link's score -/
theorem back_good (k : Int) (S : List (Int × Int)) (n : Nat) : ∀ p, p < n → ∃ R, (bk (tb k S n) (p + 1) p).reverse = R ++ [S.getD p (0, 0)] ∧ risN (R ++ [S.getD p (0, 0)]) (R.length + 1) ∧ wqs k (R ++ [S.getD p (0, 0)]) R.length = ((tb k S n).getD p Lk0).q ∧ ∀ x ∈ R, ∃ j, j < n ∧ x = S.getD j (0, 0) := by
  intro p
  induction p using Nat.strongRecOn with
  | _ p ih =>
    intro hp
    obtain ⟨T, hT⟩ : ∃ T, T = tb k S n := ⟨_, rfl⟩
    have hTp := tb_full k S n p hp
    have hpp : ∀ i, i < n → ((tb k S n).getD i Lk0).p < i := fun i hi => by
      rw [tb_full k S n i hi]; exact (bst_p _ _ _ _).2
    have hb : bk (tb k S n) (p + 1) p = S.getD p (0, 0) :: bk (tb k S n) p ((tb k S n).getD p Lk0).p := by
      show (if (p : Int) < 0 then [] else _) = _
      rw [if_neg (by omega), Int.toNat_natCast]
      congr 1
      rw [hTp]
    rcases bst_from k (S.getD p (0, 0)) (tb k S n) p with ⟨h1, h2⟩ | ⟨j, h1, h2, h3, h4⟩
    · have e1 : ((tb k S n).getD p Lk0).p = -1 := by rw [hTp]; exact h1
      have e2 : ((tb k S n).getD p Lk0).q = 4 * k := by rw [hTp]; exact h2
      refine ⟨[], ?_, fun i hi => absurd hi (by simp), ?_, by simp⟩
      · rw [hb, e1]
        have : bk (tb k S n) p (-1) = [] := by cases p <;> simp [bk]
        rw [this]; rfl
      · rw [e2]; rfl
    · have e1 : ((tb k S n).getD p Lk0).p = j := by rw [hTp]; exact h2
      have e2 : ((tb k S n).getD p Lk0).q = ((tb k S n).getD j Lk0).q + qtr (S.getD j (0, 0)) (S.getD p (0, 0)) k := by
        rw [hTp]
        show (bst k (S.getD p (0, 0)) (tb k S n) p).1 = _
        rw [h4, tb_full k S n j (by omega)]
      have h3' : fol (S.getD j (0, 0)) (S.getD p (0, 0)) := by rw [tb_full k S n j (by omega)] at h3; exact h3
      obtain ⟨R, r1, r2, r3, r4⟩ := ih j h1 (by omega)
      refine ⟨R ++ [S.getD j (0, 0)], ?_, ?_, ?_, ?_⟩
      · rw [hb, e1, bk_more (tb k S n) n hpp (j + 1) j (by omega) (by omega) p (by omega), List.reverse_cons, r1]
      · intro i hi
        simp only [List.length_append, List.length_singleton] at hi
        by_cases hlast : i + 1 < R.length + 1
        · rw [getD_app_l _ _ i (by simp; omega), getD_app_l _ _ (i + 1) (by simp; omega)]
          exact r2 i hlast
        · have hie : i = R.length := by omega
          subst hie
          rw [getD_app_l _ _ _ (by simp)]
          have g1 : (R ++ [S.getD j (0, 0)]).getD R.length A0 = S.getD j (0, 0) := by
            rw [List.getD_eq_getElem?_getD, List.getElem?_append_right (Nat.le_refl _)]; simp
          have g2 : (R ++ [S.getD j (0, 0)] ++ [S.getD p (0, 0)]).getD (R.length + 1) A0 = S.getD p (0, 0) := by
            rw [List.getD_eq_getElem?_getD, List.getElem?_append_right (by simp)]; simp
          rw [g1, g2]; exact h3'
      · rw [List.length_append, List.length_singleton]
        show wqs k _ R.length + qtr _ _ k = _
        rw [wqs_app k (R ++ [S.getD j (0, 0)]) _ R.length (by simp), r3, getD_app_l _ _ _ (by simp)]
        have g1 : (R ++ [S.getD j (0, 0)]).getD R.length A0 = S.getD j (0, 0) := by
          rw [List.getD_eq_getElem?_getD, List.getElem?_append_right (Nat.le_refl _)]; simp
        have g2 : (R ++ [S.getD j (0, 0)] ++ [S.getD p (0, 0)]).getD (R.length + 1) A0 = S.getD p (0, 0) := by
          rw [List.getD_eq_getElem?_getD, List.getElem?_append_right (by simp)]; simp
        rw [g1, g2, e2]
      · intro x hx
        rw [List.mem_append, List.mem_singleton] at hx
        rcases hx with hx | rfl
        · exact r4 x hx
        · exact ⟨j, by omega, rfl⟩
/-- the chain itself -/
theorem chain_good (k : Int) (L : List (Int × Int)) (h : L ≠ []) : risN (chL k L) (chL k L).length ∧ wqs k (chL k L) ((chL k L).length - 1) = chQ k L ∧ 0 < (chL k L).length ∧ ∀ x ∈ chL k L, x ∈ L := by
  have hm0 := canon_ne L h
  have hml := mxi_lt (tb k (canon L) (canon L).length) (canon L).length hm0
  obtain ⟨R, r1, r2, r3, r4⟩ := back_good k (canon L) (canon L).length _ hml
  have hpp : ∀ i, i < (canon L).length → ((tb k (canon L) (canon L).length).getD i Lk0).p < i := fun i hi => by
    rw [tb_full k _ _ i hi]; exact (bst_p _ _ _ _).2
  have e : chL k L = R ++ [(canon L).getD (mxi (tb k (canon L) (canon L).length) (canon L).length) (0, 0)] := by
    rw [← r1]
    show (bk _ _ _).reverse = _
    congr 1
    exact bk_more (tb k (canon L) (canon L).length) (canon L).length hpp (mxi (tb k (canon L) (canon L).length) (canon L).length + 1) ((mxi (tb k (canon L) (canon L).length) (canon L).length : Nat) : Int) (by omega) (by omega) (canon L).length (by omega)
  have hl : (chL k L).length = R.length + 1 := by rw [e]; simp
  have inS : ∀ j, j < (canon L).length → (canon L).getD j (0, 0) ∈ L := fun j hj => by
    rw [List.getD_eq_getElem?_getD, List.getElem?_eq_getElem hj]
    exact (mem_canon L _).1 (List.getElem_mem hj)
  refine ⟨?_, ?_, by omega, ?_⟩
  · rw [hl, e]; exact r2
  · rw [hl, e, Nat.add_sub_cancel]; exact r3
  · intro x hx
    rw [e, List.mem_append, List.mem_singleton] at hx
    rcases hx with hx | rfl
    · obtain ⟨j, hj, rfl⟩ := r4 x hx
      exact inS j hj
    · exact inS _ hml
end Go.Proofs.YtilcmkiihefkkabGreatDoor.Mn
end
