import Derived.Lib.BitFns
section
namespace Go.Proofs.YtilcmkiihefkkabGreatDoor.Mn
/-- The order of anchors (Read, Place). -/
def bef (a b : Int × Int) : Prop := a.2 < b.2 ∨ (a.2 = b.2 ∧ a.1 < b.1)
def befB (a b : Int × Int) : Bool := decide (a.2 < b.2) || (decide (a.2 = b.2) && decide (a.1 < b.1))
theorem befB_iff (a b : Int × Int) : befB a b = true ↔ bef a b := by
  unfold befB bef
  simp only [Bool.or_eq_true, Bool.and_eq_true, decide_eq_true_iff]
theorem befB_not (a b : Int × Int) : befB a b = false ↔ ¬ bef a b := by
  rw [← befB_iff]; simp
theorem bef_irr (a : Int × Int) : ¬ bef a a := by unfold bef; omega
theorem bef_trans {a b c : Int × Int} (h1 : bef a b) (h2 : bef b c) : bef a c := by unfold bef at *; omega
theorem bef_asymm {a b : Int × Int} (h1 : bef a b) : ¬ bef b a := by unfold bef at *; omega
theorem bef_tri (a b : Int × Int) : bef a b ∨ a = b ∨ bef b a := by
  unfold bef
  by_cases h1 : a.2 < b.2
  · exact Or.inl (Or.inl h1)
  · by_cases h2 : b.2 < a.2
    · exact Or.inr (Or.inr (Or.inl h2))
    · have h3 : a.2 = b.2 := by omega
      by_cases h4 : a.1 < b.1
      · exact Or.inl (Or.inr ⟨h3, h4⟩)
      · by_cases h5 : b.1 < a.1
        · exact Or.inr (Or.inr (Or.inr ⟨h3.symm, h5⟩))
        · exact Or.inr (Or.inl (Prod.ext (by omega) h3))
theorem srt_unique : ∀ (L M : List (Int × Int)), L.Pairwise bef → M.Pairwise bef → (∀ x, x ∈ L ↔ x ∈ M) → L = M
  | [], [], _, _, _ => rfl
  | [], b :: M, _, _, h => by have := (h b).2 (by simp); simp at this
  | a :: L, [], _, _, h => by have := (h a).1 (by simp); simp at this
  | a :: L, b :: M, hL, hM, h => by
    rw [List.pairwise_cons] at hL hM
    have hab : a = b := by
      rcases bef_tri a b with h1 | h1 | h1
      · have := (h a).1 (by simp)
        rcases List.mem_cons.1 this with e | e
        · exact e
        · exact absurd h1 (bef_asymm (hM.1 a e))
      · exact h1
      · have := (h b).2 (by simp)
        rcases List.mem_cons.1 this with e | e
        · exact e.symm
        · exact absurd h1 (bef_asymm (hL.1 b e))
    subst hab
    have := srt_unique L M hL.2 hM.2 (fun x => by
      constructor
      · intro hx
        rcases List.mem_cons.1 ((h x).1 (List.mem_cons_of_mem _ hx)) with e | e
        · subst e; exact absurd (hL.1 x hx) (bef_irr x)
        · exact e
      · intro hx
        rcases List.mem_cons.1 ((h x).2 (List.mem_cons_of_mem _ hx)) with e | e
        · subst e; exact absurd (hM.1 x hx) (bef_irr x)
        · exact e)
    rw [this]
/-- Each once, of those side by side. -/
def uniq : List (Int × Int) → List (Int × Int)
  | [] => []
  | [a] => [a]
  | a :: b :: t => if a = b then uniq (b :: t) else a :: uniq (b :: t)
theorem mem_uniq : ∀ (L : List (Int × Int)) (x : Int × Int), x ∈ uniq L ↔ x ∈ L
  | [], x => by simp [uniq]
  | [a], x => by simp [uniq]
  | a :: b :: t, x => by
    unfold uniq
    split
    · rename_i h; subst h
      rw [mem_uniq (a :: t) x]; simp
    · rw [List.mem_cons, mem_uniq (b :: t) x, List.mem_cons (a := x) (b := a)]
theorem uniq_srt : ∀ (L : List (Int × Int)), L.Pairwise (fun a b => ¬ bef b a) → (uniq L).Pairwise bef
  | [], _ => by simp [uniq]
  | [a], _ => by simp [uniq]
  | a :: b :: t, h => by
    unfold uniq
    have h2 := uniq_srt (b :: t) (List.pairwise_cons.1 h).2
    split
    · exact h2
    · rename_i hne
      rw [List.pairwise_cons]
      refine ⟨fun y hy => ?_, h2⟩
      rw [mem_uniq] at hy
      have h3 := (List.pairwise_cons.1 h).1
      rcases bef_tri a y with h4 | h4 | h4
      · exact h4
      · subst h4
        rcases List.mem_cons.1 hy with e | e
        · exact absurd e hne
        · have h5 := (List.pairwise_cons.1 (List.pairwise_cons.1 h).2).1 a e
          have h6 := h3 b (by simp)
          rcases bef_tri a b with h7 | h7 | h7
          · exact absurd h7 h5
          · exact absurd h7 hne
          · exact absurd h7 h6
      · exact absurd h4 (h3 y hy)
theorem uniq_length_le : ∀ (L : List (Int × Int)), (uniq L).length ≤ L.length
  | [] => by simp [uniq]
  | [a] => by simp [uniq]
  | a :: b :: t => by
    unfold uniq
    have := uniq_length_le (b :: t)
    split
    · simp only [List.length_cons] at *; omega
    · simp only [List.length_cons] at *; omega
/-- The anchors in their order, each once. -/
def leB (x y : Int × Int) : Bool := !befB y x
def canon (L : List (Int × Int)) : List (Int × Int) := uniq (L.mergeSort leB)
theorem leB_pairwise (L : List (Int × Int)) : (L.mergeSort leB).Pairwise (fun a b => ¬ bef b a) := by
  have := List.pairwise_mergeSort (le := leB) (fun a b c h1 h2 => by
    unfold leB at *
    simp only [Bool.not_eq_true', befB_not] at *
    rcases bef_tri a b with h | h | h
    · rcases bef_tri b c with h' | h' | h'
      · exact fun hc => bef_irr a (bef_trans (bef_trans h h') hc)
      · subst h'; exact h1
      · exact absurd h' h2
    · subst h; exact h2
    · exact absurd h h1) (fun a b => by
    unfold leB
    simp only [Bool.or_eq_true, Bool.not_eq_true', befB_not]
    by_cases h : bef b a
    · exact Or.inr (bef_asymm h)
    · exact Or.inl h) L
  refine this.imp ?_
  intro a b h
  unfold leB at h
  rw [Bool.not_eq_true', befB_not] at h
  exact h
theorem canon_srt (L : List (Int × Int)) : (canon L).Pairwise bef := uniq_srt _ (leB_pairwise L)
theorem mem_canon (L : List (Int × Int)) (x : Int × Int) : x ∈ canon L ↔ x ∈ L := by
  unfold canon; rw [mem_uniq]; exact List.mem_mergeSort
theorem canon_length (L : List (Int × Int)) : (canon L).length ≤ L.length := by
  unfold canon
  have := uniq_length_le (L.mergeSort leB)
  rwa [List.length_mergeSort] at this
theorem canon_unique (L M : List (Int × Int)) (h : M.Pairwise bef) (hm : ∀ x, x ∈ M ↔ x ∈ L) : M = canon L :=
  srt_unique M (canon L) h (canon_srt L) (fun x => by rw [hm, mem_canon])
theorem canon_ne (L : List (Int × Int)) (h : L ≠ []) : 0 < (canon L).length := by
  cases L with
  | nil => exact absurd rfl h
  | cons a t =>
    have : a ∈ canon (a :: t) := (mem_canon _ _).2 (by simp)
    exact List.length_pos_of_mem this
/-- What a step is worth, in quarters. -/
def lst (a b k : Int) : Int := min (min a b) k
def apt (a b : Int) : Int := max a b - min a b
def qtr (x y : Int × Int) (k : Int) : Int :=
  4 * lst (y.2 - x.2) (y.1 - x.1) k - apt (y.2 - x.2) (y.1 - x.1) - 2 * (Go.Lib.bitLen (apt (y.2 - x.2) (y.1 - x.1)).toNat : Nat)
structure Lk where
  a : Int × Int
  q : Int
  p : Int
def Lk0 : Lk := ⟨(0, 0), 0, 0⟩
def fol (x y : Int × Int) : Prop := x.2 < y.2 ∧ x.1 < y.1
def folB (x y : Int × Int) : Bool := decide (x.2 < y.2) && decide (x.1 < y.1)
theorem folB_iff (a b : Int × Int) : folB a b = true ↔ fol a b := by
  unfold folB fol
  simp only [Bool.and_eq_true, decide_eq_true_iff]
/-- The best way to end with x, by the first j links. -/
def bst (k : Int) (x : Int × Int) (T : List Lk) : Nat → Int × Int
  | 0 => (4 * k, -1)
  | j + 1 => if ((T.getD j Lk0).a.2 < x.2 ∧ (T.getD j Lk0).a.1 < x.1) ∧ (bst k x T j).1 < (T.getD j Lk0).q + qtr (T.getD j Lk0).a x k then ((T.getD j Lk0).q + qtr (T.getD j Lk0).a x k, j) else bst k x T j
/-- The links of the first i anchors. -/
def tb (k : Int) (S : List (Int × Int)) : Nat → List Lk
  | 0 => []
  | i + 1 => tb k S i ++ [⟨S.getD i (0, 0), (bst k (S.getD i (0, 0)) (tb k S i) i).1, (bst k (S.getD i (0, 0)) (tb k S i) i).2⟩]
/-- The first of the greatest among the first i. -/
def mxi (T : List Lk) : Nat → Nat
  | 0 => 0
  | i + 1 => if (T.getD (mxi T i) Lk0).q < (T.getD i Lk0).q then i else mxi T i
/-- From link p back to the beginning. -/
def bk (T : List Lk) : Nat → Int → List (Int × Int)
  | 0, _ => []
  | f + 1, p => if p < 0 then [] else (T.getD p.toNat Lk0).a :: bk T f (T.getD p.toNat Lk0).p
theorem tb_length (k : Int) (S : List (Int × Int)) : ∀ i, (tb k S i).length = i
  | 0 => rfl
  | i + 1 => by simp [tb, tb_length k S i]
theorem tb_getD (k : Int) (S : List (Int × Int)) (i : Nat) : ∀ n, i < n → (tb k S n).getD i Lk0 = ⟨S.getD i (0, 0), (bst k (S.getD i (0, 0)) (tb k S i) i).1, (bst k (S.getD i (0, 0)) (tb k S i) i).2⟩
  | 0, h => by omega
  | n + 1, h => by
    by_cases hi : i < n
    · rw [← tb_getD k S i n hi]
      simp only [tb]
      rw [List.getD_eq_getElem?_getD, List.getElem?_append_left (by rw [tb_length]; exact hi), ← List.getD_eq_getElem?_getD]
    · have : i = n := by omega
      subst this
      simp only [tb]
      rw [List.getD_eq_getElem?_getD, List.getElem?_append_right (by rw [tb_length]; exact Nat.le_refl _), tb_length]
      simp
theorem bst_ge (k : Int) (x : Int × Int) (T : List Lk) : ∀ j, 4 * k ≤ (bst k x T j).1
  | 0 => by simp [bst]
  | j + 1 => by
    have := bst_ge k x T j
    unfold bst
    split
    · rename_i h; simp only; omega
    · exact this
theorem bst_p (k : Int) (x : Int × Int) (T : List Lk) : ∀ j, -1 ≤ (bst k x T j).2 ∧ (bst k x T j).2 < j
  | 0 => by simp [bst]
  | j + 1 => by
    have := bst_p k x T j
    unfold bst
    split
    · simp only; omega
    · omega
theorem qtr_le (x y : Int × Int) (k : Int) : qtr x y k ≤ 4 * k := by
  unfold qtr lst apt; omega
theorem bst_le (k : Int) (hk : 0 ≤ k) (x : Int × Int) (T : List Lk) (n : Nat) (hT : ∀ j, j < n → (T.getD j Lk0).q ≤ 4 * k * (j + 1)) : ∀ j, j ≤ n → (bst k x T j).1 ≤ 4 * k * (j + 1)
  | 0, _ => by simp [bst]
  | j + 1, h => by
    have h1 := bst_le k hk x T n hT j (by omega)
    have h2 := hT j (by omega)
    have h3 := qtr_le (T.getD j Lk0).a x k
    have h4 : 4 * k * ((j + 1 : Nat) + 1 : Int) = 4 * k * (j + 1) + 4 * k := by
      rw [Int.mul_add, Int.mul_one]; simp
    unfold bst
    split
    · simp only; omega
    · omega
theorem tb_bounds (k : Int) (hk : 0 ≤ k) (S : List (Int × Int)) (n : Nat) : ∀ i, i < n → 4 * k ≤ ((tb k S n).getD i Lk0).q ∧ ((tb k S n).getD i Lk0).q ≤ 4 * k * (i + 1) ∧ -1 ≤ ((tb k S n).getD i Lk0).p ∧ ((tb k S n).getD i Lk0).p < i := by
  intro i
  induction i using Nat.strongRecOn with
  | _ i ih =>
    intro hi
    rw [tb_getD k S i n hi]
    refine ⟨bst_ge .., ?_, (bst_p ..).1, (bst_p ..).2⟩
    refine bst_le k hk _ _ i (fun j hj => ?_) i (Nat.le_refl _)
    have := (ih j hj (by omega)).2.1
    rw [tb_getD k S j n (by omega)] at this
    rw [tb_getD k S j i hj]
    exact this
theorem bst_congr (k : Int) (x : Int × Int) (T U : List Lk) : ∀ j, (∀ i, i < j → T.getD i Lk0 = U.getD i Lk0) → bst k x T j = bst k x U j
  | 0, _ => rfl
  | j + 1, h => by
    unfold bst
    rw [h j (by omega), bst_congr k x T U j (fun i hi => h i (by omega))]
theorem mxi_lt (T : List Lk) : ∀ i, 0 < i → mxi T i < i
  | 0, h => by omega
  | i + 1, _ => by
    unfold mxi
    split
    · omega
    · by_cases h : 0 < i
      · have := mxi_lt T i h; omega
      · have : i = 0 := by omega
        subst this; simp [mxi]
theorem bk_fuel (T : List Lk) (n : Nat) (hT : ∀ i, i < n → (T.getD i Lk0).p < i) : ∀ (f : Nat) (p : Int), p < n → p < f → bk T (f + 1) p = bk T f p
  | 0, p, h1, h2 => by
    have h2' : p < 0 := by simpa using h2
    simp [bk, h2']
  | f + 1, p, h1, h2 => by
    by_cases hp : p < 0
    · simp [bk, hp]
    · have h3 := hT p.toNat (by omega)
      have hf : bk T (f + 1) (T.getD p.toNat Lk0).p = bk T f (T.getD p.toNat Lk0).p := bk_fuel T n hT f _ (by omega) (by omega)
      have e1 : bk T (f + 1 + 1) p = (T.getD p.toNat Lk0).a :: bk T (f + 1) (T.getD p.toNat Lk0).p := by
        show (if p < 0 then [] else _) = _
        rw [if_neg hp]
      have e2 : bk T (f + 1) p = (T.getD p.toNat Lk0).a :: bk T f (T.getD p.toNat Lk0).p := by
        show (if p < 0 then [] else _) = _
        rw [if_neg hp]
      rw [e1, e2, hf]
/-- The chain of the anchors, and its score in quarters. -/
def chT (k : Int) (L : List (Int × Int)) : List Lk := tb k (canon L) (canon L).length
def chM (k : Int) (L : List (Int × Int)) : Nat := mxi (chT k L) (canon L).length
def chL (k : Int) (L : List (Int × Int)) : List (Int × Int) := (bk (chT k L) (canon L).length (chM k L)).reverse
def chQ (k : Int) (L : List (Int × Int)) : Int := ((chT k L).getD (chM k L) Lk0).q
end Go.Proofs.YtilcmkiihefkkabGreatDoor.Mn
end
