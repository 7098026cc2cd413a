import Derived.Test.YtilcmkiihefkkabGreatDoorJk4
import Derived.Test.YtilcmkiihefkkabGreatDoorJk7
section
set_option linter.unusedVariables false
set_option linter.unusedSimpArgs false
namespace Go.Proofs.YtilcmkiihefkkabGreatDoor.Mn
open Go.RowKit
/-- anchors, as they lie in memory -/
def acells (L : List (Int × Int)) : List Value := L.flatMap fun x => [.int .i64 x.1, .int .i64 x.2]
theorem acells_append (E F : List (Int × Int)) : acells (E ++ F) = acells E ++ acells F := by simp [acells]
theorem acells_length (E : List (Int × Int)) : (acells E).length = E.length * 2 := by
  induction E with
  | nil => rfl
  | cons x E ih =>
    show (Value.int .i64 x.1 :: Value.int .i64 x.2 :: acells E).length = _
    simp only [List.length_cons, ih]
    omega
theorem acells_at (E : List (Int × Int)) : ∀ j (h : j < E.length), (acells E)[2 * j]? = some (.int .i64 E[j].1) ∧ (acells E)[2 * j + 1]? = some (.int .i64 E[j].2) := by
  induction E with
  | nil => intro j h; exact absurd h (by simp)
  | cons x E ih =>
    intro j h
    cases j with
    | zero => exact ⟨rfl, rfl⟩
    | succ j =>
      have := ih j (by simpa using h)
      show (Value.int .i64 x.1 :: Value.int .i64 x.2 :: acells E)[2 * (j + 1)]? = _ ∧ (Value.int .i64 x.1 :: Value.int .i64 x.2 :: acells E)[2 * (j + 1) + 1]? = _
      rw [show 2 * (j + 1) = 2 * j + 1 + 1 by omega]
      simpa using this
theorem acells_iff (X : List (Int × Int)) (cur : Array Value) (o : Nat) : (∀ i u, (acells X)[i]? = some u → cur[o + i]? = some u) ↔ ∀ q (h : q < X.length), cur[o + 2 * q]? = some (.int .i64 X[q].1) ∧ cur[o + (2 * q + 1)]? = some (.int .i64 X[q].2) := by
  constructor
  · intro h q hq
    have := acells_at X q hq
    exact ⟨h _ _ this.1, h _ _ this.2⟩
  · intro h i u hi
    have hlt : i < X.length * 2 := by
      rcases Nat.lt_or_ge i (acells X).length with hh | hh
      · rwa [acells_length] at hh
      · rw [List.getElem?_eq_none hh] at hi; exact absurd hi (by simp)
    have hq : i / 2 < X.length := by omega
    have h1 := acells_at X (i / 2) hq
    have h2 := h (i / 2) hq
    rcases (show i = 2 * (i / 2) ∨ i = 2 * (i / 2) + 1 by omega) with he | he
    · rw [he] at hi ⊢; rw [h1.1] at hi; rw [h2.1]; exact hi
    · rw [he] at hi ⊢; rw [h1.2] at hi; rw [h2.2]; exact hi
/-- what a slice of anchors of the call's own reads as -/
theorem OwnR.ans {w : World} {t : TypeId} {base g o cap n : Nat} {L : List (Int × Int)} (h : OwnR w base t 2 (.slice (some ⟨g, o, none⟩) n cap) n (acells L)) :
    ∀ j (hj : j < L.length), w.cell? ⟨g, o + j * 2, none⟩ = some (.int .i64 L[j].1) ∧ w.cell? ⟨g, o + j * 2 + 1, none⟩ = some (.int .i64 L[j].2) := by
  rcases h.2 with ⟨h, _⟩ | ⟨_, _, _, cur, he, h1, h2, h3, h4, h5, h6⟩
  · simp at h
  · simp only [Value.slice.injEq, Option.some.injEq, Addr.mk.injEq, and_true, true_and] at he
    obtain ⟨⟨rfl, rfl⟩, rfl⟩ := he
    intro j hj
    have := acells_at L j hj
    rw [Nat.mul_comm]
    exact ⟨cell_at h2 (h6 _ _ this.1), cell_at h2 (h6 _ _ this.2)⟩
theorem OwnR.setA {w : World} {t : TypeId} {base g o n cap : Nat} {X : List (Int × Int)} (h : OwnR w base t 2 (.slice (some ⟨g, o, none⟩) n cap) n (acells X)) (hX : X.length = n) (j : Nat) (hj : j < n) (y : (Int × Int)) :
    OwnR ((w.setCell ⟨g, o + j * 2, none⟩ (.int .i64 y.1)).setCell ⟨g, o + j * 2 + 1, none⟩ (.int .i64 y.2)) base t 2 (.slice (some ⟨g, o, none⟩) n cap) n (acells (X.set j y)) := by
  obtain ⟨h0, h⟩ := h
  refine ⟨by rw [acells_length] at h0 ⊢; rw [List.length_set]; exact h0, ?_⟩
  rcases h with ⟨h, _⟩ | ⟨g', o', cap', cur, he, h1, h2, h3, h4, h5, h6⟩
  · simp at h
  · simp only [Value.slice.injEq, Option.some.injEq, Addr.mk.injEq, and_true, true_and] at he
    obtain ⟨⟨rfl, rfl⟩, rfl⟩ := he
    have hU := (Upd.of_setCell (i := o + j * 2) (.int .i64 y.1) h2).setCell (i := o + j * 2 + 1) (.int .i64 y.2)
    refine Or.inr ⟨g, o, cap, _, rfl, h1, hU.here, h3, h4, by simpa using h5, ?_⟩
    rw [acells_iff] at h6 ⊢
    intro q hq
    rw [List.length_set] at hq
    have hcap : o + n * 2 ≤ cur.size := Nat.le_trans (Nat.add_le_add_left (Nat.mul_le_mul_right 2 h3) o) h5
    by_cases hqj : q = j
    · subst hqj
      simp only [List.getElem_set_self]
      refine ⟨?_, ?_⟩
      · rw [Array.getElem?_setIfInBounds_ne (by omega), show o + 2 * q = o + q * 2 by omega, Array.getElem?_setIfInBounds_self_of_lt (by omega)]
      · rw [show o + (2 * q + 1) = o + q * 2 + 1 by omega, Array.getElem?_setIfInBounds_self_of_lt (by simp; omega)]
    · have hne : j ≠ q := fun h => hqj h.symm
      have := h6 q (by omega)
      rw [List.getElem_set_ne hne]
      refine ⟨?_, ?_⟩
      · rw [Array.getElem?_setIfInBounds_ne (by omega), Array.getElem?_setIfInBounds_ne (by omega)]; exact this.1
      · rw [Array.getElem?_setIfInBounds_ne (by omega), Array.getElem?_setIfInBounds_ne (by omega)]; exact this.2
end Go.Proofs.YtilcmkiihefkkabGreatDoor.Mn
end
