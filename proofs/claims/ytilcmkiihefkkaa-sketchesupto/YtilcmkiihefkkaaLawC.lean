import Derived.Test.YtilcmkiihefkkaaLawA
set_option linter.unusedVariables false
set_option linter.unusedSimpArgs false
set_option maxRecDepth 100000
namespace Go.Proofs.Ytilcmkiihefkkaa
open Go.RowKit

theorem reads_M : (scRun 2 1 [65, 67, 71, 84, 84] 5).M = [⟨1, 0, false⟩, ⟨1, 2, true⟩, ⟨0, 3, true⟩] := by kernel_rfl

theorem good5 : good ⟨#[65, 67, 71, 84, 84]⟩ := by
  intro j hj
  have : j < 5 := hj
  rcases (show j = 0 ∨ j = 1 ∨ j = 2 ∨ j = 3 ∨ j = 4 by omega) with rfl | rfl | rfl | rfl | rfl
  · exact (show (0 : Int) ≤ numb 65 by decide)
  · exact (show (0 : Int) ≤ numb 67 by decide)
  · exact (show (0 : Int) ≤ numb 71 by decide)
  · exact (show (0 : Int) ≤ numb 84 by decide)
  · exact (show (0 : Int) ≤ numb 84 by decide)

set_option maxRecDepth 100000 in
set_option maxHeartbeats 1000000 in
theorem reads_any (w : World) :
    Calls Try.prog 20 #[] w fun e w' => e = .returned (.bool true) ∧ Below w.heap.size w w' := by
  go_enter Try.func20, Try.ntmps20
  go_wp2_with fail
  refine (words_any ⟨#[65, 67, 71, 84, 84]⟩ 2 1 w (by decide) (by omega) (by omega) (by omega) (by omega)).mono ?_
  rintro e w' ⟨h, hbel⟩
  rcases h with ⟨_, pv, rfl, hown⟩ | ⟨hb, _⟩
  · have e1 : (scRun 2 1 (⟨#[65, 67, 71, 84, 84]⟩ : ByteArray).data.toList (⟨#[65, 67, 71, 84, 84]⟩ : ByteArray).size).M = [⟨1, 0, false⟩, ⟨1, 2, true⟩, ⟨0, 3, true⟩] := reads_M
    rw [e1] at hown
    clear e1
    go_wp2_with fail
    refine (sameWords_any [⟨1, 0, false⟩, ⟨1, 2, true⟩, ⟨0, 3, true⟩] w.heap.size w.heap.size pv _ _ (by decide) (hown.other (fun g _ hlt => Below.heap_alloc _ _ _ hlt)) ⟨rfl, Or.inr ⟨w'.heap.size, 0, 3, _, rfl, hbel.size, heap_alloc_new w' _, Nat.le_refl _, (by unfold maxLen; omega), Nat.le_refl _, ?_⟩⟩).mono ?_
    · intro j u hj
      rw [Nat.zero_add]
      simpa [wcells, W3.cells] using hj
    · rintro e w2 ⟨rfl, n, rfl⟩
      clear hown
      go_wp2
      go_ret
      refine ⟨rfl, ?_⟩
      have := hbel.alloc hbel.size (.cells #[.int .i64 1, .int .i64 0, .bool false, .int .i64 1, .int .i64 2, .bool true, .int .i64 0, .int .i64 3, .bool true] 50)
      exact ⟨this.os, this.tape, this.output, this.size, this.block⟩
  · exact absurd good5 hb
end Go.Proofs.Ytilcmkiihefkkaa
