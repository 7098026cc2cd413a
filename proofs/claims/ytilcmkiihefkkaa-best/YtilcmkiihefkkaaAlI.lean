import Derived.Test.YtilcmkiihefkkaaAlF
import Derived.Test.YtilcmkiihefkkaaAlG
import Derived.Test.YtilcmkiihefkkaaAlH
set_option linter.unusedVariables false
set_option linter.unusedSimpArgs false
namespace Go.Proofs.Ytilcmkiihefkkaa
open Go.RowKit Go.Shelf Go.Lib

/-- anchors that came in, or were made: where they lie -/
def RdA (w : World) (ao : Option Addr) (L : List (Int × Int)) : Prop := L = [] ∨ ∃ g o, ao = some ⟨g, o, none⟩ ∧ g < w.heap.size ∧ ∀ j (hj : j < L.length), w.cell? ⟨g, o + j * 2, none⟩ = some (.int .i64 L[j].1) ∧ w.cell? ⟨g, o + j * 2 + 1, none⟩ = some (.int .i64 L[j].2)

/-- the error of Chain -/
def errC (L : List (Int × Int)) (k : Int) : Int := if k < 1 ∨ 12 < k then 6 else if 400 < L.length then 1 else if L.length = 0 then 7 else if L.any outB then 2 else 0

theorem any_outB (L : List (Int × Int)) : L.any outB = true ↔ ¬ ∀ x ∈ L, okA x := by
  rw [List.any_eq_true]
  constructor
  · rintro ⟨x, hx, h⟩ hall
    exact (outB_iff x).1 h (hall x hx)
  · intro h
    apply Classical.byContradiction
    intro hn
    refine h (fun x hx => ?_)
    rw [← outB_not]
    cases hb : outB x with
    | false => rfl
    | true => exact absurd ⟨x, hx, hb⟩ hn

theorem contains_any (L : List (Int × Int)) (n : Nat) (hn : L.length = n) (h0 : 0 < n) (h4 : n ≤ 400) (g o cap : Nat) (w : World) (hg : g < w.heap.size)
    (hA : ∀ j (hj : j < L.length), w.cell? ⟨g, o + j * 2, none⟩ = some (.int .i64 L[j].1) ∧ w.cell? ⟨g, o + j * 2 + 1, none⟩ = some (.int .i64 L[j].2)) :
    Calls Try.prog 65 #[.slice (some ⟨g, o, none⟩) n cap, .func (.func 66) #[] #[]] w fun e w' => e = .returned (.bool (L.any outB)) ∧ Below w.heap.size w w' := by
  have eg : ∀ args w, (callFunc 66 args).run Try.prog w = .ok (.enter 66 args) w := enters_of Try.func66 (by kernel_rfl) rfl
  have hcon := AnyQ.slices_ContainsFunc Try.containsA 2 Try.isAgg62 Try.sizeOf62 encA (fun _ => rfl) outB 66 #[] eg g o n cap L w
    (fun W x hb => (outOfBounds_any x W).mono fun _ _ ⟨he, hw⟩ => ⟨he, hb.trans (hw.mono hb.size)⟩) (by omega) (by omega) hg
    (fun j hj i v hv => by
      have e : L[j]! = L[j] := by simp [hj]
      rw [e] at hv
      have := hA j hj
      match i, hv with
      | 0, hv =>
        have h : Value.int .i64 L[j].1 = v := by simpa [encA] using hv
        rw [← h]; exact this.1
      | 1, hv =>
        have h : Value.int .i64 L[j].2 = v := by simpa [encA] using hv
        rw [← h]; exact this.2
      | i + 2, hv => simp [encA] at hv)
  change Calls Try.prog 65 _ _ _ at hcon
  rw [List.take_of_length_le (by omega)] at hcon
  exact hcon

set_option maxHeartbeats 1000000 in
theorem chainError_any (L : List (Int × Int)) (n : Nat) (hn : L.length = n) (ao : Option Addr) (cap : Nat) (k : Int) (w : World) (hA : RdA w ao L) :
    Calls Try.prog 45 #[.slice ao n cap, .int .i64 k] w fun e w' => e = .returned (.int .i64 (errC L k)) ∧ Below w.heap.size w w' := by
  by_cases hk1 : k < 1
  · have e : errC L k = 6 := by unfold errC; rw [if_pos (Or.inl hk1)]
    rw [e]
    go_enter Try.func45, Try.ntmps45
    go_wp2_with fail
    go_ret
    exact ⟨rfl, Below.refl _ _⟩
  · by_cases hk2 : 12 < k
    · have e : errC L k = 6 := by unfold errC; rw [if_pos (Or.inr hk2)]
      rw [e]
      go_enter Try.func45, Try.ntmps45
      go_wp2_with fail
      go_ret
      exact ⟨rfl, Below.refl _ _⟩
    · by_cases h4 : 400 < n
      · have e : errC L k = 1 := by unfold errC; rw [if_neg (by omega), if_pos (by omega)]
        have h4I : (400 : Int) < n := by omega
        rw [e]
        go_enter Try.func45, Try.ntmps45
        go_wp2_with fail
        go_ret
        exact ⟨rfl, Below.refl _ _⟩
      · have h4I : ¬ (400 : Int) < n := by omega
        by_cases h0 : n = 0
        · subst h0
          have e : errC L k = 7 := by unfold errC; rw [if_neg (by omega), if_neg (by omega), if_pos (by omega)]
          rw [e]
          go_enter Try.func45, Try.ntmps45
          go_wp2_with fail
          go_ret
          exact ⟨rfl, Below.refl _ _⟩
        · have h0I : ¬ ((n : Int) = 0) := by omega
          rcases hA with hA | ⟨g, o, rfl, hg, hA⟩
          · rw [hA] at hn; simp at hn; omega
          · have cC := contains_any L n hn (by omega) (by omega) g o cap w hg hA
            have e : errC L k = if L.any outB then 2 else 0 := by unfold errC; rw [if_neg (by omega), if_neg (by omega), if_neg (by omega)]
            rw [e]
            clear e hA
            cases hb : L.any outB with
            | true =>
              rw [hb] at cC
              clear hb hn
              simp only [if_true]
              go_enter Try.func45, Try.ntmps45
              go_wp2_with (go_at_call 65; refine cC.mono ?_; rintro e w' ⟨rfl, hbw⟩)
              go_ret
              exact ⟨rfl, hbw⟩
            | false =>
              rw [hb] at cC
              clear hb hn
              simp only [if_false, Bool.false_eq_true]
              go_enter Try.func45, Try.ntmps45
              go_wp2_with (go_at_call 65; refine cC.mono ?_; rintro e w' ⟨rfl, hbw⟩)
              go_ret
              exact ⟨rfl, hbw⟩

set_option maxHeartbeats 1000000 in
theorem achain_err (L : List (Int × Int)) (n : Nat) (hn : L.length = n) (ao : Option Addr) (cap : Nat) (k : Int) (w : World) (hA : RdA w ao L) (he : errC L k ≠ 0) :
    Calls Try.prog 25 #[.slice ao n cap, .int .i64 k] w fun e w' => e = badC (errC L k) ∧ Below w.heap.size w w' := by
  have cC := chainError_any L n hn ao cap k w hA
  generalize errC L k = r at cC he ⊢
  clear hn hA
  go_enter Try.func25, Try.ntmps25
  go_wp2_with (go_at_call 45; refine cC.mono ?_; rintro e w' ⟨rfl, hbw⟩)
  go_ret3
  exact ⟨rfl, hbw⟩
end Go.Proofs.Ytilcmkiihefkkaa
