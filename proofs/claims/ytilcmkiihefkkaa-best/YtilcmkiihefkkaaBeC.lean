import Derived.Test.YtilcmkiihefkkaaBeA
import Derived.Test.YtilcmkiihefkkaaLaA
set_option linter.unusedVariables false
set_option linter.unusedSimpArgs false
namespace Go.Proofs.Ytilcmkiihefkkaa
open Go.RowKit Go.Shelf Go.Lib

/-- the number that a raw one speaks of -/
def pkv (c n : Int) : Int := if c < 0 then (-(c + 1)) % n else c % n

theorem pkv_lt (c n : Int) (hn : 0 < n) : 0 ≤ pkv c n ∧ pkv c n < n := by
  unfold pkv
  split
  · exact ⟨Int.emod_nonneg _ (by omega), Int.emod_lt_of_pos _ hn⟩
  · exact ⟨Int.emod_nonneg _ (by omega), Int.emod_lt_of_pos _ hn⟩

theorem ret_int2 {a b : Int} (h : a = b) : Ending.returned (.int .i64 a) = .returned (.int .i64 b) := by rw [h]

set_option maxHeartbeats 400000 in
theorem lpick_eq (c n : Int) (w : World) (hc : -9223372036854775808 ≤ c ∧ c ≤ 9223372036854775807) (hn : 0 < n) (hn2 : n ≤ 100000) :
    Calls Try.prog 22 #[.int .i64 c, .int .i64 n] w fun e w' => e = .returned (.int .i64 (pkv c n)) ∧ w' = w := by
  have hn0 : (n == 0) = false := by rw [beq_eq_false_iff_ne]; omega
  by_cases h : c < 0
  · have e1 : -((c + 1).tmod n) = (-(c + 1)) % n := by
      rw [← Int.neg_tmod, Int.tmod_eq_emod_of_nonneg (by omega)]
    have HE : Hid (-((c + 1).tmod n) = pkv c n) := by show _ = _; unfold pkv; rw [if_pos h]; exact e1
    clear e1
    go_enter Try.func22, Try.ntmps22
    go_wp2
    go_ret
    exact ⟨ret_int2 HE.out, rfl⟩
  · have HE : Hid (c % n = pkv c n) := by show _ = _; unfold pkv; rw [if_neg h]
    go_enter Try.func22, Try.ntmps22
    go_wp2
    go_ret
    exact ⟨ret_int2 HE.out, rfl⟩

set_option maxHeartbeats 400000 in
set_option maxRecDepth 100000 in
theorem worth_nil (ao : Option Addr) (cap : Nat) (k : Int) (w : World) (hk1 : 1 ≤ k) (hk2 : k ≤ 12) :
    Calls Try.prog 28 #[.slice ao 0 cap, .int .i64 k] w fun e w' => e = .returned (.tuple #[.float .f64 (fq (4 * k)), .bool false]) ∧ ∃ q, w' = w.drewN q := by
  have p50 : (100000000 : Nat) ≤ 2 ^ 50 := by decide
  have ek : floatOfInt .f64 k = fq (4 * k) := ofInt_fq k (by omega)
  clear p50
  go_enter Try.func28, Try.ntmps28
  go_wp2_with fail
  refine wp_loop_rounds 1 ?_
  rw [rounds_succ]
  go_wp2_with fail
  go_ret2
  exact ⟨rfl, 0, rfl⟩

/-- the example of the document -/
def L0 : List (Int × Int) := [(3, 13), (8, 19), (0, 10)]

theorem canon_L0 : canon L0 = [(0, 10), (3, 13), (8, 19)] := by
  symm
  refine canon_unique L0 _ ?_ ?_
  · simp [bef]
  · intro x
    unfold L0
    simp only [List.mem_cons, List.not_mem_nil, or_false]
    constructor
    · rintro (h | h | h)
      · exact Or.inr (Or.inr h)
      · exact Or.inl h
      · exact Or.inr (Or.inl h)
    · rintro (h | h | h)
      · exact Or.inr (Or.inl h)
      · exact Or.inr (Or.inr h)
      · exact Or.inl h

theorem L0_good : errC L0 4 = 0 ∧ chQ 4 L0 = 41 ∧ (chL 4 L0).length = 3 := by
  refine ⟨by decide, ?_, ?_⟩
  · unfold chQ chM chT
    rw [canon_L0]
    decide
  · unfold chL chM chT
    rw [canon_L0]
    decide

theorem fq41 : fq 41 = 4621959855077326848 := by decide
end Go.Proofs.Ytilcmkiihefkkaa
