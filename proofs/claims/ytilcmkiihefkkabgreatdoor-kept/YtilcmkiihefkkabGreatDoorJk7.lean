import Derived.Below
import Derived.BigRegion
import Derived.ChangeAlike
import Derived.RegionTactic
import Derived.Test.YtilcmkiihefkkabGreatDoorJk2
import Derived.Test.YtilcmkiihefkkabGreatDoorProg
import Derived.WalkKit
import Derived.WalkLawsBesides
import Derived.WalkSpells
section
set_option linter.unusedVariables false
set_option linter.unusedSimpArgs false
namespace Go.Proofs.YtilcmkiihefkkabGreatDoor.Mn
open Go.RowKit
/-- numbers of an anchor that may be -/
def okA (x : Int × Int) : Prop := 0 ≤ x.1 ∧ x.1 ≤ 10000 ∧ 0 ≤ x.2 ∧ x.2 ≤ 10000
theorem bitLen_le20 (n : Nat) (h2 : n < 1048576) : Go.Lib.bitLen n ≤ 20 := by
  have : ∀ f n, n < 2 ^ f → ∀ g, Go.Lib.bitLenAux g n ≤ f := by
    intro f
    induction f with
    | zero => intro n h g
              have : n = 0 := by simpa using h
              subst this
              cases g <;> simp [Go.Lib.bitLenAux]
    | succ f ih =>
      intro n h g
      cases g with
      | zero => simp [Go.Lib.bitLenAux]
      | succ g =>
        unfold Go.Lib.bitLenAux
        split
        · omega
        · have := ih (n / 2) (by rw [Nat.pow_succ] at h; omega) g
          omega
  exact this 20 n (by simpa using h2) 64
end Go.Proofs.YtilcmkiihefkkabGreatDoor.Mn
end
