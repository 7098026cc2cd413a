import Derived.Test.YtilcmkiihefkkaaChA
namespace Go.Proofs.Ytilcmkiihefkkaa

/-- one more at a place -/
def insK (o : List (Int × Int)) (k : Nat) (y : Int × Int) : List (Int × Int) := o.take k ++ y :: o.drop k

theorem insK_length (o : List (Int × Int)) (k : Nat) (y : Int × Int) : (insK o k y).length = o.length + 1 := by
  unfold insK
  simp only [List.length_append, List.length_take, List.length_cons, List.length_drop]
  omega

theorem insK_end (o : List (Int × Int)) (y : Int × Int) : insK o o.length y = o ++ [y] := by
  unfold insK; simp

theorem insK_set (o : List (Int × Int)) (k : Nat) (y z : Int × Int) (h : k ≤ o.length) : (insK o k y).set k z = insK o k z := by
  unfold insK
  rw [List.set_append_right _ _ (by simp; omega), List.length_take, Nat.min_eq_left h, Nat.sub_self, List.set_cons_zero]

theorem insK_step (o : List (Int × Int)) (k : Nat) (h : k + 1 ≤ o.length) (z : Int × Int) (hz : z = o[k]'(by omega)) : insK o (k + 1) z = insK o k z := by
  unfold insK
  rw [List.take_succ_eq_append_getElem (by omega), List.append_assoc, List.drop_eq_getElem_cons (show k < o.length by omega), ← hz]
  rfl

theorem insK_get (o : List (Int × Int)) (k j : Nat) (y : Int × Int) (h : k ≤ o.length) (hj : j < k) : (insK o k y)[j]'(by rw [insK_length]; omega) = o[j]'(by omega) := by
  unfold insK
  rw [List.getElem_append_left (by simp; omega)]
  simp

theorem mem_insK (o : List (Int × Int)) (k : Nat) (y x : Int × Int) : x ∈ insK o k y ↔ x ∈ o ∨ x = y := by
  unfold insK
  rw [List.mem_append, List.mem_cons]
  conv => rhs; rw [← List.take_append_drop k o, List.mem_append]
  constructor
  · rintro (h | h | h)
    · exact Or.inl (Or.inl h)
    · exact Or.inr h
    · exact Or.inl (Or.inr h)
  · rintro ((h | h) | h)
    · exact Or.inl h
    · exact Or.inr (Or.inr h)
    · exact Or.inr (Or.inl h)

theorem srt_insK (o : List (Int × Int)) (hs : o.Pairwise bef) (k : Nat) (x : Int × Int) (hk : k ≤ o.length) (h1 : ∀ h : 0 < k, bef (o[k - 1]'(by omega)) x) (h2 : ∀ j (hj : j < o.length), k ≤ j → ¬ bef o[j] x) (h3 : ∀ j (hj : j < o.length), k ≤ j → o[j] ≠ x) : (insK o k x).Pairwise bef := by
  unfold insK
  rw [List.pairwise_iff_getElem] at hs
  have ha : ∀ y ∈ o.take k, bef y x := by
    intro y hy
    obtain ⟨j, hj, rfl⟩ := List.getElem_of_mem hy
    rw [List.length_take] at hj
    have hjk : j < k := by omega
    rw [List.getElem_take]
    have := h1 (by omega)
    by_cases he : j = k - 1
    · subst he; exact this
    · exact bef_trans (hs j (k - 1) (by omega) (by omega) (by omega)) this
  have hb : ∀ y ∈ o.drop k, bef x y := by
    intro y hy
    obtain ⟨j, hj, rfl⟩ := List.getElem_of_mem hy
    rw [List.length_drop] at hj
    rw [List.getElem_drop]
    rcases bef_tri x (o[k + j]'(by omega)) with h | h | h
    · exact h
    · exact absurd h.symm (h3 _ _ (by omega))
    · exact absurd h (h2 _ _ (by omega))
  rw [List.pairwise_append]
  refine ⟨?_, ?_, ?_⟩
  · exact List.Pairwise.sublist (List.take_sublist k o) (List.pairwise_iff_getElem.2 hs)
  · rw [List.pairwise_cons]
    exact ⟨hb, List.Pairwise.sublist (List.drop_sublist k o) (List.pairwise_iff_getElem.2 hs)⟩
  · intro a haa b hbb
    rcases List.mem_cons.1 hbb with e | e
    · subst e; exact ha a haa
    · exact bef_trans (ha a haa) (hb b e)

theorem mem_take_succ (L : List (Int × Int)) (i : Nat) (h : i < L.length) (x : Int × Int) : x ∈ L.take (i + 1) ↔ x ∈ L.take i ∨ x = L[i] := by
  rw [List.take_succ_eq_append_getElem h, List.mem_append, List.mem_singleton]
end Go.Proofs.Ytilcmkiihefkkaa
