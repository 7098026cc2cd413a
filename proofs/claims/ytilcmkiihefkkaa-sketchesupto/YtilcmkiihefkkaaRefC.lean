import Derived.Test.YtilcmkiihefkkaaRefB
set_option linter.unusedVariables false
set_option linter.unusedSimpArgs false
set_option maxRecDepth 100000
namespace Go.Proofs.Ytilcmkiihefkkaa
open Go.RowKit

/-- the first of the least ones from a place on, among so many -/
def bestC (a : List Nat) (k m : Nat) : Nat → Option W3
  | 0 => none
  | q + 1 => match candW a k (m + q) with
    | none => bestC a k m q
    | some x => match bestC a k m q with
      | none => some x
      | some b => if x.h < b.h then some x else some b

theorem bestC_spec (a : List Nat) (k m : Nat) : ∀ q,
    (bestC a k m q = none → ∀ j y, m ≤ j → j < m + q → candW a k j ≠ some y) ∧
    (∀ x, bestC a k m q = some x → ∃ i, m ≤ i ∧ i < m + q ∧ candW a k i = some x ∧ (∀ j y, m ≤ j → j < m + q → candW a k j = some y → x.h ≤ y.h) ∧ (∀ j y, m ≤ j → j < i → candW a k j = some y → x.h < y.h)) := by
  intro q
  induction q with
  | zero => exact ⟨fun _ j y h1 h2 => absurd h2 (by omega), fun x h => by simp [bestC] at h⟩
  | succ q ih =>
    obtain ⟨ih1, ih2⟩ := ih
    cases hc : candW a k (m + q) with
    | none =>
      have e : bestC a k m (q + 1) = bestC a k m q := by rw [bestC, hc]
      rw [e]
      constructor
      · intro hn j y h1 h2 h3
        by_cases hj : j = m + q
        · subst hj; rw [hc] at h3; simp at h3
        · exact ih1 hn j y h1 (by omega) h3
      · intro x hx
        obtain ⟨i, q1, q2, q3, q4, q5⟩ := ih2 x hx
        refine ⟨i, q1, by omega, q3, ?_, q5⟩
        intro j y h1 h2 h3
        by_cases hj : j = m + q
        · subst hj; rw [hc] at h3; simp at h3
        · exact q4 j y h1 (by omega) h3
    | some x =>
      cases hb : bestC a k m q with
      | none =>
        have e : bestC a k m (q + 1) = some x := by rw [bestC, hc, hb]
        rw [e]
        refine ⟨fun h => by simp at h, fun z hz => ?_⟩
        simp only [Option.some.injEq] at hz
        subst hz
        refine ⟨m + q, by omega, by omega, hc, ?_, ?_⟩
        · intro j y h1 h2 h3
          by_cases hj : j = m + q
          · subst hj; rw [hc] at h3; cases h3; exact Int.le_refl _
          · exact absurd h3 (ih1 hb j y h1 (by omega))
        · intro j y h1 h2 h3
          exact absurd h3 (ih1 hb j y h1 (by omega))
      | some b =>
        obtain ⟨i, q1, q2, q3, q4, q5⟩ := ih2 b hb
        by_cases hlt : x.h < b.h
        · have e : bestC a k m (q + 1) = some x := by rw [bestC, hc, hb]; simp [hlt]
          rw [e]
          refine ⟨fun h => by simp at h, fun z hz => ?_⟩
          simp only [Option.some.injEq] at hz
          subst hz
          refine ⟨m + q, by omega, by omega, hc, ?_, ?_⟩
          · intro j y h1 h2 h3
            by_cases hj : j = m + q
            · subst hj; rw [hc] at h3; cases h3; exact Int.le_refl _
            · have := q4 j y h1 (by omega) h3; omega
          · intro j y h1 h2 h3
            have := q4 j y h1 (by omega) h3; omega
        · have e : bestC a k m (q + 1) = some b := by rw [bestC, hc, hb]; simp [hlt]
          rw [e]
          refine ⟨fun h => by simp at h, fun z hz => ?_⟩
          simp only [Option.some.injEq] at hz
          subst hz
          refine ⟨i, q1, by omega, q3, ?_, q5⟩
          intro j y h1 h2 h3
          by_cases hj : j = m + q
          · subst hj; rw [hc] at h3; cases h3; omega
          · exact q4 j y h1 (by omega) h3

theorem bestC_stands (a : List Nat) (k W m : Nat) (hW : 1 ≤ W) (hw : IsWin a k W (m + W - 1)) :
    (bestC a k m W = none → ∀ x, ¬ Stands a k W (m + W - 1) x) ∧ (∀ x, bestC a k m W = some x → Stands a k W (m + W - 1) x) := by
  have hsp := bestC_spec a k m W
  constructor
  · intro hn x ⟨_, i, h1, h2, h3, _⟩
    exact hsp.1 hn i x (by omega) (by omega) h3
  · intro x hx
    obtain ⟨i, q1, q2, q3, q4, q5⟩ := hsp.2 x hx
    exact ⟨hw, i, by omega, by omega, q3, fun j y h1 h2 h3 => q4 j y (by omega) (by omega) h3, fun j y h1 h2 h3 => q5 j y (by omega) h2 h3⟩

/-- the words that are marked, below a place -/
def listF (a : List Nat) (k : Nat) (f : Nat → Bool) (n : Nat) : List W3 := (List.range n).filterMap (fun i => if f i = true then candW a k i else none)

theorem listF_succ (a : List Nat) (k : Nat) (f : Nat → Bool) (n : Nat) : listF a k f (n + 1) = listF a k f n ++ (match (if f n = true then candW a k n else none) with | none => [] | some x => [x]) := by
  unfold listF
  rw [List.range_succ, List.filterMap_append]
  cases h : (if f n = true then candW a k n else none) <;> simp [h]

theorem listF_length (a : List Nat) (k : Nat) (f : Nat → Bool) (n : Nat) : (listF a k f n).length ≤ n := by
  unfold listF
  refine Nat.le_trans (List.length_filterMap_le _ _) ?_
  simp

theorem words_listF (a : List Nat) (k W : Nat) (hk : 1 ≤ k) (hW : 1 ≤ W) (f : Nat → Bool) (m : Nat) (hm : a.length < m + k + W - 1) (hm2 : ∀ i, i < m → i + k + W - 1 ≤ a.length)
    (hf : ∀ p : Nat, f p = true ↔ ∃ i, i < m ∧ ∃ x, Stands a k W (i + W - 1) x ∧ x.p = p) :
    (pkRun k W a (a.length + 1 - k)).M = listF a k f a.length := by
  rw [words_filter a k W hk hW f m hm hm2 hf]
  refine inc_ext _ _ ((allW_inc a k).filter _) ?_ ?_
  · unfold listF
    rw [List.pairwise_filterMap]
    refine List.Pairwise.imp ?_ List.pairwise_lt_range
    intro i j hij x hx y hy
    split at hx
    · split at hy
      · have := candW_p hx
        have := candW_p hy
        omega
      · simp at hy
    · simp at hx
  · intro x
    rw [List.mem_filter, mem_allW a k hk]
    unfold listF
    rw [List.mem_filterMap]
    constructor
    · intro ⟨⟨i, hi⟩, hfx⟩
      have hp := candW_p hi
      have hl := ((isW_get a k i).1 (candW_isW hi)).1
      rw [hp, Int.toNat_natCast] at hfx
      exact ⟨i, by simp; omega, by rw [if_pos hfx]; exact hi⟩
    · intro ⟨i, hi, hx⟩
      split at hx
      · rename_i hfi
        have hp := candW_p hx
        refine ⟨⟨i, hx⟩, ?_⟩
        rw [hp, Int.toNat_natCast]
        exact hfi
      · simp at hx

/-- the marks in memory, behind so many windows -/
def StJ (a : List Nat) (k W St : Nat) (m : Nat) (wr : World) : Prop :=
  ∃ (cs : Array Value) (f : Nat → Bool), (∀ i, i < m → i + k + W - 1 ≤ a.length) ∧ wr.heap[St]? = some (.cells cs 4 (0, 0)) ∧ cs.size = a.length ∧ (∀ p, p < a.length → cs[p]? = some (.bool (f p))) ∧
    (∀ p : Nat, f p = true ↔ ∃ i, i < m ∧ ∃ x, Stands a k W (i + W - 1) x ∧ x.p = p)

theorem StJ.keep {a : List Nat} {k W St m : Nat} {wr wr' : World} (h : StJ a k W St m wr) (hh : wr'.heap[St]? = wr.heap[St]?) : StJ a k W St m wr' := by
  obtain ⟨cs, f, h1, h2, h3, h4, h5⟩ := h
  exact ⟨cs, f, h1, hh.trans h2, h3, h4, h5⟩

theorem StJ.stepN {a : List Nat} {k W St m : Nat} {wr : World} (h : StJ a k W St m wr) (hin : m + k + W - 1 ≤ a.length) (hno : ∀ x, ¬ Stands a k W (m + W - 1) x) : StJ a k W St (m + 1) wr := by
  obtain ⟨cs, f, h1, h2, h3, h4, h5⟩ := h
  refine ⟨cs, f, ?_, h2, h3, h4, ?_⟩
  · intro i hi
    by_cases h : i = m
    · subst h; exact hin
    · exact h1 i (by omega)
  · intro p
    rw [h5 p]
    constructor
    · intro ⟨i, hi, x, hx⟩
      exact ⟨i, by omega, x, hx⟩
    · intro ⟨i, hi, x, hx, hp⟩
      by_cases h : i = m
      · subst h; exact absurd hx (hno x)
      · exact ⟨i, by omega, x, hx, hp⟩

theorem StJ.stepS {a : List Nat} {k W St m pn : Nat} {wr : World} {x : W3} (h : StJ a k W St m wr) (hin : m + k + W - 1 ≤ a.length) (hx : Stands a k W (m + W - 1) x) (hxp : x.p = pn) (hpn : pn < a.length) :
    StJ a k W St (m + 1) (wr.setCell ⟨St, pn, none⟩ (.bool true)) := by
  obtain ⟨cs, f, h1, h2, h3, h4, h5⟩ := h
  refine ⟨_, fun p => f p || decide (p = pn), ?_, heap_setCell_same wr St pn cs 4 (.bool true) h2, by simpa using h3, ?_, ?_⟩
  · intro i hi
    by_cases h : i = m
    · subst h; exact hin
    · exact h1 i (by omega)
  · intro p hp
    by_cases h : p = pn
    · subst h
      rw [Array.getElem?_setIfInBounds_self_of_lt (by omega)]
      simp
    · rw [Array.getElem?_setIfInBounds_ne (by omega), h4 p hp]
      simp [h]
  · intro p
    rw [Bool.or_eq_true, h5 p, decide_eq_true_iff]
    constructor
    · intro h
      rcases h with ⟨i, hi, y, hy⟩ | h
      · exact ⟨i, by omega, y, hy⟩
      · exact ⟨m, by omega, x, hx, by omega⟩
    · intro ⟨i, hi, y, hy, hp⟩
      by_cases h : i = m
      · subst h
        right
        have := stands_uniq hy hx
        subst this
        omega
      · left
        exact ⟨i, by omega, y, hy, hp⟩

/-- are all places of a stretch those of words? -/
def wholeW (a : List Nat) (k m q : Nat) : Bool := decide (∀ j, j < q → isW a k (m + j) = true)

theorem wholeW_succ (a : List Nat) (k m q : Nat) : wholeW a k m (q + 1) = (wholeW a k m q && isW a k (m + q)) := by
  rw [Bool.eq_iff_iff, Bool.and_eq_true]
  unfold wholeW
  rw [decide_eq_true_iff, decide_eq_true_iff]
  constructor
  · intro h
    exact ⟨fun j hj => h j (by omega), h q (by omega)⟩
  · intro ⟨h1, h2⟩ j hj
    by_cases h : j = q
    · subst h; exact h2
    · exact h1 j (by omega)

theorem wholeW_win (a : List Nat) (k m W : Nat) (hW : 1 ≤ W) : wholeW a k m W = true ↔ IsWin a k W (m + W - 1) := by
  unfold wholeW
  rw [decide_eq_true_iff]
  constructor
  · intro h
    refine ⟨by omega, fun j h1 h2 => ?_⟩
    have := h (j - m) (by omega)
    rwa [show m + (j - m) = j by omega] at this
  · intro ⟨_, h⟩ j hj
    exact h (m + j) (by omega) (by omega)

theorem Try.info4 : (Try.prog.info? 4).map (fun i => (i.zero, i.size, i.bytes)) = some (some (.bool false), 1, 1) := by kernel_rfl

end Go.Proofs.Ytilcmkiihefkkaa
