import Derived.Test.YtilcmkiihefkkaaTurnsW
import Derived.Test.YtilcmkiihefkkaaPureD
set_option linter.unusedVariables false
set_option linter.unusedSimpArgs false
set_option maxRecDepth 100000
namespace Go.Proofs.Ytilcmkiihefkkaa
open Go.RowKit

/-- three hundred marks, none set -/
def falses : Array Value := Array.replicate 300 (.bool false)

theorem zero48 (w : World) : (zeroValue 48).run Try.prog w = .ok (.agg falses) w := by kernel_rfl

/-- are all letters of a stretch bases other than N? -/
def wholeB (a : List Nat) (i j : Nat) : Bool := decide (∀ q, q < j → i ≤ q → a.getD q 0 < 4)

theorem wholeB_succ (a : List Nat) (i j : Nat) (hij : i ≤ j) : wholeB a i (j + 1) = (wholeB a i j && decide (a.getD j 0 < 4)) := by
  rw [Bool.eq_iff_iff, Bool.and_eq_true]
  unfold wholeB
  rw [decide_eq_true_iff, decide_eq_true_iff, decide_eq_true_iff]
  constructor
  · intro h
    exact ⟨fun q h1 h2 => h q (by omega) h2, h j (by omega) hij⟩
  · intro ⟨h1, h2⟩ q h3 h4
    by_cases hq : q = j
    · subst hq; exact h2
    · exact h1 q (by omega) h4

/-- the marks in memory, behind so many windows -/
def StI (a : List Nat) (k W St : Nat) (w6 : World) (m : Nat) (wr : World) : Prop :=
  ∃ (cs : Array Value) (f : Nat → Bool), (∀ i, i < m → i + k + W - 1 ≤ a.length) ∧ Upd w6 wr St (.cells cs 48 (0, 0)) ∧ cs.size = 300 ∧ (∀ p, p < 300 → cs[p]? = some (.bool (f p))) ∧
    (∀ p : Nat, f p = true ↔ ∃ i, i < m ∧ ∃ x, Stands a k W (i + W - 1) x ∧ x.p = p)

theorem numb_N (c : UInt8) (h : 0 ≤ numb c) : ((c.toNat : Int) == 78) = !decide ((numb c).toNat < 4) := by
  rcases numb_cases c with ⟨rfl, h'⟩ | ⟨rfl, h'⟩ | ⟨rfl, h'⟩ | ⟨rfl, h'⟩ | ⟨rfl, h'⟩ | h'
  · rw [h']; rfl
  · rw [h']; rfl
  · rw [h']; rfl
  · rw [h']; rfl
  · rw [h']; rfl
  · omega

/-- the place of the best one so far, as the law keeps it -/
def bestI (A : List W3) (lo hi : Int) (j : Nat) : Int := match bestN A lo hi j with | none => -1 | some b => (b : Int)

theorem bestI_none {A : List W3} {lo hi : Int} {j : Nat} (h : bestN A lo hi j = none) : bestI A lo hi j = -1 := by unfold bestI; rw [h]
theorem bestI_some {A : List W3} {lo hi : Int} {j b : Nat} (h : bestN A lo hi j = some b) : bestI A lo hi j = b := by unfold bestI; rw [h]

theorem bestN_stay {A : List W3} {lo hi : Int} {j : Nat} (h : ¬ (lo ≤ (at3 A j).p ∧ (at3 A j).p < hi ∧ (∀ b, bestN A lo hi j = some b → (at3 A j).h < (at3 A b).h))) : bestI A lo hi (j + 1) = bestI A lo hi j := by
  unfold bestI
  rw [show bestN A lo hi (j + 1) = bestN A lo hi j by rw [bestN, if_neg h]]

theorem bestN_take {A : List W3} {lo hi : Int} {j : Nat} (h : lo ≤ (at3 A j).p ∧ (at3 A j).p < hi ∧ (∀ b, bestN A lo hi j = some b → (at3 A j).h < (at3 A b).h)) : bestI A lo hi (j + 1) = j := by
  unfold bestI
  rw [show bestN A lo hi (j + 1) = some j by rw [bestN, if_pos h]]

theorem cells7 {A : List W3} {lao : Option Addr} {n lcap base : Nat} {w5 w7 : World} (hol : OwnR w5 base 50 3 (.slice lao n lcap) A.length (wcells A)) (hn : n = A.length) (hk : ∀ g, g < w5.heap.size → w7.heap[g]? = w5.heap[g]?) (hpos : 0 < n) :
    ∃ g o, lao = some ⟨g, o, none⟩ ∧ g < w5.heap.size ∧ ∀ j, j < n → w7.cell? ⟨g, o + j * 3, none⟩ = some (.int .i64 (at3 A j).h) ∧ w7.cell? ⟨g, o + j * 3 + 1, none⟩ = some (.int .i64 (at3 A j).p) ∧ w7.cell? ⟨g, o + j * 3 + 2, none⟩ = some (.bool (at3 A j).b) := by
  subst hn
  rcases hol.2 with ⟨_, h0⟩ | ⟨g, o, cap, cur, h, _⟩
  · omega
  · have h' := h
    simp only [Value.slice.injEq] at h
    obtain ⟨rfl, _, rfl⟩ := h
    have hlt := (hol.lt (g := g) rfl).2
    refine ⟨g, o, rfl, hlt, fun j hj => ?_⟩
    have hc := cells_word A base g o lcap w5 hol j hj
    rw [at3_get A j hj]
    have hb : ∀ q, w7.cell? ⟨g, q, none⟩ = w5.cell? ⟨g, q, none⟩ := fun q => World.cell?_of_block (hk g hlt)
    rw [hb, hb, hb]
    exact hc

theorem allW_p2 (a : List Nat) (k : Nat) : ∀ x ∈ allW a k, 0 ≤ x.p ∧ x.p + k ≤ a.length := by
  intro x hx
  unfold allW at hx
  rw [List.mem_filterMap] at hx
  obtain ⟨p, hp, h⟩ := hx
  have := candW_p h
  have := ((isW_get a k p).1 (candW_isW h)).1
  omega

theorem StI.stepN {a : List Nat} {k W St m : Nat} {w6 wr wr' : World} (h : StI a k W St w6 m wr) (hin : m + k + W - 1 ≤ a.length) (hno : ∀ x, ¬ Stands a k W (m + W - 1) x) (hos : wr'.os = wr.os) (htp : wr'.tape = wr.tape) (hout : wr'.output = wr.output) (hh : wr'.heap = wr.heap) : StI a k W St w6 (m + 1) wr' := by
  obtain ⟨cs, f, h1, h2, h3, h4, h5⟩ := h
  refine ⟨cs, f, ?_, ⟨hos.trans h2.os, htp.trans h2.tape, hout.trans h2.output, by rw [hh]; exact h2.size, by rw [hh]; exact h2.here, fun j hj => by rw [hh]; exact h2.other j hj⟩, h3, h4, ?_⟩
  · intro i hi
    by_cases h : i = m
    · subst h; exact hin
    · exact h1 i (by omega)
  · intro p
    rw [h5 p]
    constructor
    · intro ⟨i, hi, x, hx⟩
      exact ⟨i, by omega, x, hx⟩
    · intro ⟨i, hi, x, hx, hp⟩
      by_cases h : i = m
      · subst h; exact absurd hx (hno x)
      · exact ⟨i, by omega, x, hx, hp⟩

theorem StI.stepS {a : List Nat} {k W St m pn : Nat} {w6 wr wr' : World} {x : W3} (h : StI a k W St w6 m wr) (hin : m + k + W - 1 ≤ a.length) (hx : Stands a k W (m + W - 1) x) (hxp : x.p = pn) (hpn : pn < 300) (hos : wr'.os = wr.os) (htp : wr'.tape = wr.tape) (hout : wr'.output = wr.output) (hh : wr'.heap = wr.heap) :
    StI a k W St w6 (m + 1) (wr'.setCell ⟨St, pn, none⟩ (.bool true)) := by
  obtain ⟨cs, f, h1, h2, h3, h4, h5⟩ := h
  have h2' : Upd w6 wr' St (.cells cs 48 (0, 0)) := ⟨hos.trans h2.os, htp.trans h2.tape, hout.trans h2.output, by rw [hh]; exact h2.size, by rw [hh]; exact h2.here, fun j hj => by rw [hh]; exact h2.other j hj⟩
  refine ⟨_, fun p => f p || decide (p = pn), ?_, h2'.setCell (i := pn) (.bool true), by simpa using h3, ?_, ?_⟩
  · intro i hi
    by_cases h : i = m
    · subst h; exact hin
    · exact h1 i (by omega)
  · intro p hp
    by_cases h : p = pn
    · subst h
      rw [Array.getElem?_setIfInBounds_self_of_lt (by omega)]
      simp
    · rw [Array.getElem?_setIfInBounds_ne (by omega), h4 p hp]
      simp [h]
  · intro p
    rw [Bool.or_eq_true, h5 p, decide_eq_true_iff]
    constructor
    · intro h
      rcases h with ⟨i, hi, y, hy⟩ | h
      · exact ⟨i, by omega, y, hy⟩
      · exact ⟨m, by omega, x, hx, by omega⟩
    · intro ⟨i, hi, y, hy, hp⟩
      by_cases h : i = m
      · subst h
        right
        have := stands_uniq hy hx
        subst this
        omega
      · left
        exact ⟨i, by omega, y, hy, hp⟩

end Go.Proofs.Ytilcmkiihefkkaa
