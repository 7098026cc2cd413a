import Derived.Test.YtilcmkiihefkkaaDoorSdE
set_option linter.unusedVariables false
set_option linter.unusedSimpArgs false
set_option maxRecDepth 100000
namespace Go.Proofs.YtilcmkiihefkkaaDoor
open Go.RowKit Go.Shelf Go.Lib

def prC (x y : Nat) : Int := if x = y ∧ x ≠ 4 then 0 else 4

set_option maxHeartbeats 1000000 in
theorem psame_any (x y : Nat) (w : World) : Calls Tryd.prog 24 #[.int .i64 x, .int .i64 y] w fun e w' => e = .returned (.bool (decide (x = y ∧ x ≠ 4))) ∧ w' = w := by
  go_enter Tryd.func24, Tryd.ntmps24
  by_cases h1 : x = y
  · by_cases h2 : x = 4
    · subst h1; subst h2
      go_wp2
      go_ret
      exact ⟨rfl, rfl⟩
    · have h3 : ¬ ((x : Int) = 4) := by omega
      subst h1
      go_wp2
      go_ret
      refine ⟨?_, rfl⟩
      simp [h2, h3]
  · have h3 : ¬ ((x : Int) = (y : Int)) := by omega
    go_wp2
    go_ret
    refine ⟨?_, rfl⟩
    simp [h1, h3]

set_option maxHeartbeats 1000000 in
theorem pairC_any (x y : Nat) (w : World) : Calls Tryd.prog 23 #[.int .i64 x, .int .i64 y] w fun e w' => e = .returned (.int .i64 (prC x y)) ∧ w' = w := by
  go_enter Tryd.func23, Tryd.ntmps23
  by_cases h : x = y ∧ x ≠ 4
  · have e : prC x y = 0 := by unfold prC; rw [if_pos h]
    have HD : decide (x = y ∧ x ≠ 4) = true := decide_eq_true h
    rw [e]
    have c := fun W => psame_any x y W
    rw [HD] at c
    clear HD e h
    go_wp2_with (go_at_call 24; refine (c _).mono ?_; rintro e w' ⟨rfl, rfl⟩)
    go_ret
    exact ⟨rfl, rfl⟩
  · have e : prC x y = 4 := by unfold prC; rw [if_neg h]
    have HD : decide (x = y ∧ x ≠ 4) = false := decide_eq_false h
    rw [e]
    have c := fun W => psame_any x y W
    rw [HD] at c
    clear HD e h
    go_wp2_with (go_at_call 24; refine (c _).mono ?_; rintro e w' ⟨rfl, rfl⟩)
    go_ret
    exact ⟨rfl, rfl⟩

/-- a cell's numbers are small -/
def okB (c : C3) : Prop := 0 ≤ c.m ∧ c.m ≤ 1500000000 ∧ 0 ≤ c.i ∧ c.i ≤ 1500000000 ∧ 0 ≤ c.d ∧ c.d ≤ 1500000000

theorem okB.big {c : C3} (h : okB c) : 0 ≤ c.m ∧ c.m ≤ 2000000000 ∧ 0 ≤ c.i ∧ c.i ≤ 2000000000 ∧ 0 ≤ c.d ∧ c.d ≤ 2000000000 := by
  unfold okB at h; omega

theorem okB.av {c : C3} (h : okB c) (x : Nat) : 0 ≤ av c x ∧ av c x ≤ 1500000004 := by
  unfold okB at h
  rcases x with _ | _ | x <;> simp only [YtilcmkiihefkkaaDoor.av, aM, aI, aD] <;> omega

/-- a row of cells that is being filled -/
def RowP (w : World) (g n : Nat) (h : Nat → C3) (j : Nat) : Prop :=
  ∃ cur : Array Value, w.heap[g]? = some (.cells cur 47 (0, 0)) ∧ cur.size = n * 3 ∧ ∀ t, t < j → cur[t * 3]? = some (.int .i64 (h t).m) ∧ cur[t * 3 + 1]? = some (.int .i64 (h t).i) ∧ cur[t * 3 + 2]? = some (.int .i64 (h t).d)

theorem RowP.any {w : World} {g n : Nat} {h : Nat → C3} {j : Nat} (hr : RowP w g n h j) (i : Nat) (hi : i < n * 3) : (∃ y, w.cell? ⟨g, i, none⟩ = some y) ∧ w.frozen? ⟨g, i, none⟩ = false := by
  obtain ⟨cur, h1, h2, _⟩ := hr
  exact ⟨⟨_, cell_at h1 (Array.getElem?_eq_getElem (by omega))⟩, frozen_of_row _ _ _ _ _ h1⟩

theorem RowP.cel {w : World} {g n : Nat} {h : Nat → C3} {j : Nat} (hr : RowP w g n h j) (t : Nat) (ht : t < j) : w.cell? ⟨g, t * 3, none⟩ = some (.int .i64 (h t).m) ∧ w.cell? ⟨g, t * 3 + 1, none⟩ = some (.int .i64 (h t).i) ∧ w.cell? ⟨g, t * 3 + 2, none⟩ = some (.int .i64 (h t).d) := by
  obtain ⟨cur, h1, h2, h3⟩ := hr
  exact ⟨cell_at h1 (h3 t ht).1, cell_at h1 (h3 t ht).2.1, cell_at h1 (h3 t ht).2.2⟩

theorem RowP.other {w w' : World} {g n : Nat} {h : Nat → C3} {j : Nat} (hr : RowP w g n h j) (he : w'.heap[g]? = w.heap[g]?) : RowP w' g n h j := by
  obtain ⟨cur, h1, h2⟩ := hr
  exact ⟨cur, he.trans h1, h2⟩

theorem RowP.set {w : World} {g n : Nat} {h : Nat → C3} {j : Nat} (hr : RowP w g n h j) (hj : j < n) (a b c : Int) (hc : h j = ⟨a, b, c⟩) :
    RowP (((w.setCell ⟨g, j * 3, none⟩ (.int .i64 a)).setCell ⟨g, j * 3 + 1, none⟩ (.int .i64 b)).setCell ⟨g, j * 3 + 2, none⟩ (.int .i64 c)) g n h (j + 1) := by
  obtain ⟨cur, h1, h2, h3⟩ := hr
  have u := ((Upd.of_setCell (i := j * 3) (.int .i64 a) h1).setCell (i := j * 3 + 1) (.int .i64 b)).setCell (i := j * 3 + 2) (.int .i64 c)
  refine ⟨_, u.here, by simpa using h2, fun t ht => ?_⟩
  by_cases he : t = j
  · subst he
    rw [hc]
    refine ⟨?_, ?_, ?_⟩
    · rw [Array.getElem?_setIfInBounds_ne (by omega), Array.getElem?_setIfInBounds_ne (by omega), Array.getElem?_setIfInBounds_self_of_lt (by omega)]
    · rw [Array.getElem?_setIfInBounds_ne (by omega), Array.getElem?_setIfInBounds_self_of_lt (by simp; omega)]
    · rw [Array.getElem?_setIfInBounds_self_of_lt (by simp; omega)]
  · obtain ⟨e1, e2, e3⟩ := h3 t (by omega)
    refine ⟨?_, ?_, ?_⟩
    · rw [Array.getElem?_setIfInBounds_ne (by omega), Array.getElem?_setIfInBounds_ne (by omega), Array.getElem?_setIfInBounds_ne (by omega)]; exact e1
    · rw [Array.getElem?_setIfInBounds_ne (by omega), Array.getElem?_setIfInBounds_ne (by omega), Array.getElem?_setIfInBounds_ne (by omega)]; exact e2
    · rw [Array.getElem?_setIfInBounds_ne (by omega), Array.getElem?_setIfInBounds_ne (by omega), Array.getElem?_setIfInBounds_ne (by omega)]; exact e3

theorem RowP.own {w : World} {g n base : Nat} {h : Nat → C3} (hr : RowP w g n h n) (hb : base ≤ g) (hn : n ≤ maxLen) : OwnR w base 47 3 (.slice (some ⟨g, 0, none⟩) n n) n (celsL h n) := by
  obtain ⟨cur, h1, h2, h3⟩ := hr
  refine ⟨celsL_length h n, Or.inr ⟨g, 0, n, cur, rfl, hb, h1, Nat.le_refl _, hn, by omega, fun j u hj => ?_⟩⟩
  have hl := celsL_length h n
  have hjl : j < n * 3 := by
    rcases Nat.lt_or_ge j (n * 3) with h | h
    · exact h
    · rw [List.getElem?_eq_none (by omega)] at hj; exact absurd hj (by simp)
  obtain ⟨g1, g2, g3⟩ := celsL_get h n (j / 3) (by omega)
  obtain ⟨e1, e2, e3⟩ := h3 (j / 3) (by omega)
  rw [Nat.zero_add]
  rcases (show j = j / 3 * 3 ∨ j = j / 3 * 3 + 1 ∨ j = j / 3 * 3 + 2 by omega) with he | he | he
  · rw [he] at hj ⊢; rw [g1] at hj; rw [← hj]; exact e1
  · rw [he] at hj ⊢; rw [g2] at hj; rw [← hj]; exact e2
  · rw [he] at hj ⊢; rw [g3] at hj; rw [← hj]; exact e3
end Go.Proofs.YtilcmkiihefkkaaDoor
