import Derived.Test.YtilcmkiihefkkaaAlJ
import Derived.Test.YtilcmkiihefkkaaBkAC
import Derived.Test.YtilcmkiihefkkaaBkAD
import Derived.Test.YtilcmkiihefkkaaLaB
set_option linter.unusedVariables false
set_option linter.unusedSimpArgs false
namespace Go.Proofs.Ytilcmkiihefkkaa
open Go.RowKit Go.Shelf Go.Lib

/-- what Chain answers: the error, the score's word, the chain -/
def ansE (L : List (Int × Int)) (k : Int) : Int := errC L k
def ansF (L : List (Int × Int)) (k : Int) : Nat := if errC L k = 0 then fq (chQ k L) else 0
def ansM (L : List (Int × Int)) (k : Int) : List (Int × Int) := if errC L k = 0 then chL k L else []

def ChPost (L : List (Int × Int)) (k : Int) (w : World) (e : Ending) (w' : World) : Prop :=
  ∃ v, e = .returned (.tuple #[v, .float .f64 (ansF L k), .int .i64 (ansE L k)]) ∧ Below w.heap.size w w' ∧ OwnR w' w.heap.size 62 2 v (ansM L k).length (acells (ansM L k)) ∧ (ansE L k ≠ 0 → v = .slice none 0 0)

theorem chPost_bad {L : List (Int × Int)} {k er : Int} {w w' : World} {e : Ending} (he : errC L k = er) (h0 : er ≠ 0) (h : e = badC er ∧ Below w.heap.size w w') : ChPost L k w e w' := by
  obtain ⟨rfl, hb⟩ := h
  have e1 : ansM L k = [] := by unfold ansM; rw [if_neg (by rw [he]; exact h0)]
  have e2 : ansF L k = 0 := by unfold ansF; rw [if_neg (by rw [he]; exact h0)]
  have e3 : ansE L k = er := he
  refine ⟨.slice none 0 0, ?_, hb, ?_, fun _ => rfl⟩
  · rw [e2, e3]; rfl
  · rw [e1]; exact OwnR.nil _ _ _ _

theorem achain_all (L : List (Int × Int)) (n : Nat) (hn : L.length = n) (ao : Option Addr) (cap : Nat) (k : Int) (w : World) (hA : RdA w ao L) :
    Calls Try.prog 25 #[.slice ao n cap, .int .i64 k] w fun e w' => ChPost L k w e w' := by
  by_cases he : errC L k = 0
  · refine (achain_ok L n hn ao cap k w hA he).mono ?_
    rintro e w' ⟨v, rfl, hb, ho⟩
    refine ⟨v, ?_, hb, ?_, fun h => absurd he h⟩
    · unfold ansF ansE; rw [if_pos he, he]
    · unfold ansM; rw [if_pos he]; exact ho
  · refine (achain_err L n hn ao cap k w hA he).mono ?_
    intro e w' h
    exact chPost_bad rfl he h

theorem rchain_all (L : List (Int × Int)) (n : Nat) (hn : L.length = n) (ao : Option Addr) (cap : Nat) (k : Int) (w : World) (hA : RdA w ao L) :
    Calls Try.prog 23 #[.slice ao n cap, .int .i64 k] w fun e w' => ChPost L k w e w' := by
  by_cases hk : k < 1 ∨ 12 < k
  · refine (rchain_k ao n cap k w hk).mono ?_
    intro e w' h
    exact chPost_bad (by unfold errC; rw [if_pos hk]) (by decide) h
  · by_cases h4 : 400 < L.length
    · refine (rchain_long ao n cap k w (by omega) (by omega) (by omega)).mono ?_
      intro e w' h
      exact chPost_bad (by unfold errC; rw [if_neg hk, if_pos h4]) (by decide) h
    · by_cases h0 : L.length = 0
      · have hn0 : n = 0 := by omega
        subst hn0
        refine (rchain_none ao cap k w (by omega) (by omega)).mono ?_
        intro e w' h
        exact chPost_bad (by unfold errC; rw [if_neg hk, if_neg h4, if_pos h0]) (by decide) h
      · rcases hA with hA | ⟨g, o, rfl, hg, hA⟩
        · rw [hA] at h0; simp at h0
        · by_cases hb : L.any outB = true
          · refine (rchain_byte L n hn g o cap k w (by omega) (by omega) (by omega) (by omega) hA ((any_outB L).1 hb)).mono ?_
            intro e w' h
            exact chPost_bad (by unfold errC; rw [if_neg hk, if_neg h4, if_neg h0, if_pos hb]) (by decide) h
          · have he : errC L k = 0 := by unfold errC; rw [if_neg hk, if_neg h4, if_neg h0, if_neg hb]
            have hok : ∀ x ∈ L, okA x := by
              apply Classical.byContradiction
              intro hx
              exact hb ((any_outB L).2 hx)
            refine (rchain_ok L n hn g o cap k w (by omega) (by omega) (by omega) (by omega) hg hA hok).mono ?_
            rintro e w' ⟨v, rfl, hb', ho⟩
            refine ⟨v, ?_, hb', ?_, fun h => absurd he h⟩
            · unfold ansF ansE; rw [if_pos he, he]
            · unfold ansM; rw [if_pos he]; exact ho

theorem chQ_bound (L : List (Int × Int)) (k : Int) (he : errC L k = 0) : 0 ≤ chQ k L ∧ chQ k L ≤ 100000 ∧ (chL k L).length ≤ 400 := by
  have h : 1 ≤ k ∧ k ≤ 12 ∧ L.length ≤ 400 ∧ 0 < L.length := by
    unfold errC at he
    by_cases hk : k < 1 ∨ 12 < k
    · rw [if_pos hk] at he; omega
    · rw [if_neg hk] at he
      by_cases h4 : 400 < L.length
      · rw [if_pos h4] at he; omega
      · rw [if_neg h4] at he
        by_cases h0 : L.length = 0
        · rw [if_pos h0] at he; omega
        · omega
  have hm0 : 0 < (canon L).length := canon_ne L (fun h' => by rw [h'] at h; simp at h)
  have hm4 : (canon L).length ≤ 400 := Nat.le_trans (canon_length L) (by omega)
  have hml := mxi_lt (chT k L) (canon L).length hm0
  have hb := tb_bounds k (by omega) (canon L) (canon L).length (mxi (chT k L) (canon L).length) hml
  have h1 := hb.2.1
  have h2 : 4 * k * (((mxi (chT k L) (canon L).length : Nat) : Int) + 1) ≤ 48 * 401 := Int.mul_le_mul (by omega) (by omega) (by omega) (by omega)
  refine ⟨?_, ?_, ?_⟩
  · have := hb.1
    show 0 ≤ ((tb k (canon L) (canon L).length).getD (mxi (chT k L) (canon L).length) Lk0).q
    omega
  · show ((tb k (canon L) (canon L).length).getD (mxi (chT k L) (canon L).length) Lk0).q ≤ 100000
    omega
  · unfold chL
    rw [List.length_reverse]
    have : ∀ (T : List Lk) (f : Nat) (p : Int), (bk T f p).length ≤ f := by
      intro T f
      induction f with
      | zero => intro p; simp [bk]
      | succ f ih =>
        intro p
        unfold bk
        split
        · simp
        · simp only [List.length_cons]; have := ih (T.getD p.toNat Lk0).p; omega
    exact Nat.le_trans (this _ _ _) hm4

theorem ansF_eq (L : List (Int × Int)) (k : Int) : FloatKind.f64.format.order (ansF L k) (ansF L k) = some .eq := by
  have p53 : (1048576 : Nat) ≤ 2 ^ 53 := by decide
  unfold ansF
  by_cases he : errC L k = 0
  · rw [if_pos he]
    have hb := chQ_bound L k he
    have := order_fq (chQ k L) (chQ k L) (by omega) (by omega)
    rw [show compare (chQ k L) (chQ k L) = .eq by simp [compare, compareOfLessAndEq]] at this
    exact this
  · rw [if_neg he]; decide

theorem ansM_length (L : List (Int × Int)) (k : Int) : (ansM L k).length ≤ 400 := by
  unfold ansM
  by_cases he : errC L k = 0
  · rw [if_pos he]; exact (chQ_bound L k he).2.2
  · rw [if_neg he]; simp

theorem ansM_bad (L : List (Int × Int)) (k : Int) (he : ansE L k ≠ 0) : ansM L k = [] := by
  unfold ansM; rw [if_neg (show ¬ errC L k = 0 from he)]
end Go.Proofs.Ytilcmkiihefkkaa
