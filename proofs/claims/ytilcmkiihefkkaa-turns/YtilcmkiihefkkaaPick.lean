import Derived.Test.YtilcmkiihefkkaaSeqA
import Derived.Deep.QuietTactic
import Derived.BigQuiet
set_option linter.unusedVariables false
set_option linter.unusedSimpArgs false
set_option maxRecDepth 100000
namespace Go.Proofs.Ytilcmkiihefkkaa
open Go.RowKit

structure W3 where
  h : Int
  p : Int
  b : Bool

def W3.cells (x : W3) : List Value := [.int .i64 x.h, .int .i64 x.p, .bool x.b]
def wcells (L : List W3) : List Value := L.flatMap W3.cells

theorem wcells_nil : wcells [] = [] := rfl
theorem wcells_cons (x : W3) (L : List W3) : wcells (x :: L) = .int .i64 x.h :: .int .i64 x.p :: .bool x.b :: wcells L := rfl
theorem wcells_append (L M : List W3) : wcells (L ++ M) = wcells L ++ wcells M := by simp [wcells]
theorem wcells_length (L : List W3) : (wcells L).length = L.length * 3 := by
  induction L with
  | nil => rfl
  | cons x L ih => rw [wcells_cons]; simp only [List.length_cons, ih]; omega

theorem wcells_at (L : List W3) : ∀ j (h : j < L.length), (wcells L)[3 * j]? = some (.int .i64 L[j].h) ∧ (wcells L)[3 * j + 1]? = some (.int .i64 L[j].p) ∧ (wcells L)[3 * j + 2]? = some (.bool L[j].b) := by
  induction L with
  | nil => intro j h; exact absurd h (by simp)
  | cons x L ih =>
    intro j h
    cases j with
    | zero => exact ⟨rfl, rfl, rfl⟩
    | succ j =>
      have := ih j (by simpa using h)
      rw [wcells_cons, show 3 * (j + 1) = 3 * j + 1 + 1 + 1 by omega, show 3 * j + 1 + 1 + 1 + 1 = 3 * j + 1 + 1 + 1 + 1 by rfl]
      simpa using this

/-- the slice of which nothing is left -/
def cut0 : Value → Value
  | .slice a _ cap => .slice a 0 cap
  | v => v

set_option maxHeartbeats 400000 in
theorem move_ne (k W next run place : Int) (Bk : Nat) (ov pv : Value) (w : World) (hov : (ov = .slice none 0 0) ∨ ∃ a n cap, ov = .slice (some a) n cap)
    (hB : w.heap[Bk]? = some (.cells #[.int .i64 k, .int .i64 W, .int .i64 next, .int .i64 run, ov, pv] 103 (0, 0)))
    (hpl : 0 ≤ place) (hpl2 : place ≤ 140737488351232) (heq : (place != next) = true) :
    Calls Try.prog 58 #[.pointer (some ⟨Bk, 0, none⟩), .int .i64 place] w fun e w' => e = .returned (.tuple #[]) ∧ 
       Upd w w' Bk (.cells #[.int .i64 k, .int .i64 W, .int .i64 (place + 1), .int .i64 1, cut0 ov, pv] 103 (0, 0)) := by
  have c1 : w.cell? ⟨Bk, 1, none⟩ = some (.int .i64 W) := cell_at hB rfl
  have c2 : w.cell? ⟨Bk, 2, none⟩ = some (.int .i64 next) := cell_at hB rfl
  have c3 : w.cell? ⟨Bk, 3, none⟩ = some (.int .i64 run) := cell_at hB rfl
  have c4 : w.cell? ⟨Bk, 4, none⟩ = some ov := cell_at hB rfl
  have f2 : w.frozen? ⟨Bk, 2, none⟩ = false := frozen_of_row w _ _ _ _ hB
  have f3 : w.frozen? ⟨Bk, 3, none⟩ = false := frozen_of_row w _ _ _ _ hB
  have f4 : w.frozen? ⟨Bk, 4, none⟩ = false := frozen_of_row w _ _ _ _ hB
  have HB : Hid (w.heap[Bk]? = some (.cells #[.int .i64 k, .int .i64 W, .int .i64 next, .int .i64 run, ov, pv] 103 (0, 0))) := hB
  clear hB
  rcases hov with rfl | ⟨a, n, cap, rfl⟩
  · go_enter Try.func58, Try.ntmps58
    go_wp2
    go_quiet (fail)
    go_wp2
    go_end0
    exact ⟨rfl, ((((Upd.of_setCell _ HB.out).setCell _).setCell _).setCell _).drewN _⟩
  · go_enter Try.func58, Try.ntmps58
    go_wp2
    go_quiet (fail)
    go_wp2
    go_end0
    exact ⟨rfl, ((((Upd.of_setCell _ HB.out).setCell _).setCell _).setCell _).drewN _⟩

set_option maxHeartbeats 400000 in
theorem move_eq0 (k W next run place : Int) (Bk : Nat) (ao : Option Addr) (cap : Nat) (pv : Value) (w : World) 
    (hB : w.heap[Bk]? = some (.cells #[.int .i64 k, .int .i64 W, .int .i64 next, .int .i64 run, .slice ao 0 cap, pv] 103 (0, 0)))
    (hpl : 0 ≤ place) (hpl2 : place ≤ 140737488351232) (hrun : 0 ≤ run) (hrun2 : run ≤ 140737488351232) (heq : (place != next) = false) :
    Calls Try.prog 58 #[.pointer (some ⟨Bk, 0, none⟩), .int .i64 place] w fun e w' => e = .returned (.tuple #[]) ∧ 
       Upd w w' Bk (.cells #[.int .i64 k, .int .i64 W, .int .i64 (place + 1), .int .i64 (run + 1), .slice ao 0 cap, pv] 103 (0, 0)) := by
  have c1 : w.cell? ⟨Bk, 1, none⟩ = some (.int .i64 W) := cell_at hB rfl
  have c2 : w.cell? ⟨Bk, 2, none⟩ = some (.int .i64 next) := cell_at hB rfl
  have c3 : w.cell? ⟨Bk, 3, none⟩ = some (.int .i64 run) := cell_at hB rfl
  have c4 : w.cell? ⟨Bk, 4, none⟩ = some (.slice ao 0 cap) := cell_at hB rfl
  have f2 : w.frozen? ⟨Bk, 2, none⟩ = false := frozen_of_row w _ _ _ _ hB
  have f3 : w.frozen? ⟨Bk, 3, none⟩ = false := frozen_of_row w _ _ _ _ hB
  have HB : Hid (w.heap[Bk]? = some (.cells #[.int .i64 k, .int .i64 W, .int .i64 next, .int .i64 run, .slice ao 0 cap, pv] 103 (0, 0))) := hB
  clear hB
  go_enter Try.func58, Try.ntmps58
  go_wp2
  go_quiet (fail)
  go_wp2
  go_end0
  exact ⟨rfl, ((Upd.of_setCell _ HB.out).setCell _).drewN _⟩

def MvOv (p0 lim : Int) (g o n cap : Nat) (ov' : Value) : Prop :=
  (p0 ≤ lim ∧ (ov' = .slice (some ⟨g, o + 3, none⟩) (n - 1) (cap - 1) ∨ (cap = 1 ∧ ov' = .slice (some ⟨g, o, none⟩) 0 0))) ∨ (¬ p0 ≤ lim ∧ ov' = .slice (some ⟨g, o, none⟩) n cap)

set_option maxHeartbeats 400000 in
theorem move_eqn (k W next run place : Int) (Bk g o n cap : Nat) (pv : Value) (w : World) (p0 : Int)
    (hB : w.heap[Bk]? = some (.cells #[.int .i64 k, .int .i64 W, .int .i64 next, .int .i64 run, .slice (some ⟨g, o, none⟩) n cap, pv] 103 (0, 0)))
    (hn : 0 < n) (hnc : n ≤ cap) (hn2 : cap ≤ maxLen) (hc : w.cell? ⟨g, o + 1, none⟩ = some (.int .i64 p0))
    (hpl : 0 ≤ place) (hpl2 : place ≤ 140737488351232) (hrun : 0 ≤ run) (hrun2 : run ≤ 140737488351232) (hW : 1 ≤ W) (hW2 : W ≤ 20) (heq : (place != next) = false) (hgB : g ≠ Bk) :
    Calls Try.prog 58 #[.pointer (some ⟨Bk, 0, none⟩), .int .i64 place] w fun e w' => e = .returned (.tuple #[]) ∧ 
       ∃ ov', MvOv p0 (place - W) g o n cap ov' ∧
       Upd w w' Bk (.cells #[.int .i64 k, .int .i64 W, .int .i64 (place + 1), .int .i64 (run + 1), ov', pv] 103 (0, 0)) := by
  have c1 : w.cell? ⟨Bk, 1, none⟩ = some (.int .i64 W) := cell_at hB rfl
  have c2 : w.cell? ⟨Bk, 2, none⟩ = some (.int .i64 next) := cell_at hB rfl
  have c3 : w.cell? ⟨Bk, 3, none⟩ = some (.int .i64 run) := cell_at hB rfl
  have c4 : w.cell? ⟨Bk, 4, none⟩ = some (.slice (some ⟨g, o, none⟩) n cap) := cell_at hB rfl
  have f2 : w.frozen? ⟨Bk, 2, none⟩ = false := frozen_of_row w _ _ _ _ hB
  have f3 : w.frozen? ⟨Bk, 3, none⟩ = false := frozen_of_row w _ _ _ _ hB
  have f4 : w.frozen? ⟨Bk, 4, none⟩ = false := frozen_of_row w _ _ _ _ hB
  have hnI : (0 : Int) < n := by omega
  have HB : Hid (w.heap[Bk]? = some (.cells #[.int .i64 k, .int .i64 W, .int .i64 next, .int .i64 run, .slice (some ⟨g, o, none⟩) n cap, pv] 103 (0, 0))) := hB
  clear hB
  unfold maxLen at hn2
  by_cases hexp : p0 ≤ place - W
  · by_cases h1 : cap = 1
    · go_enter Try.func58, Try.ntmps58
      go_wp2
      go_quiet (fail)
      go_wp2
      go_end0
      exact ⟨rfl, _, Or.inl ⟨hexp, Or.inr ⟨h1, by rw [show n - 1 = 0 by omega]⟩⟩, (((Upd.of_setCell _ HB.out).setCell _).drewN _).setCell _⟩
    · have h1' : 1 < cap := by omega
      go_enter Try.func58, Try.ntmps58
      go_wp2
      go_quiet (fail)
      go_wp2
      go_end0
      exact ⟨rfl, _, Or.inl ⟨hexp, Or.inl rfl⟩, (((Upd.of_setCell _ HB.out).setCell _).drewN _).setCell _⟩
  · go_enter Try.func58, Try.ntmps58
    go_wp2
    go_quiet (fail)
    go_wp2
    go_end0
    exact ⟨rfl, _, Or.inr ⟨by omega, rfl⟩, ((Upd.of_setCell _ HB.out).setCell _).drewN _⟩
end Go.Proofs.Ytilcmkiihefkkaa
