import Derived.Test.YtilcmkiihefkkaaRefG
import Derived.Test.YtilcmkiihefkkaaFlo
set_option linter.unusedVariables false
set_option linter.unusedSimpArgs false
namespace Go.Proofs.Ytilcmkiihefkkaa
open Go.RowKit

/-- what Chain answers with an error -/
def badC (e : Int) : Ending := .returned (.tuple #[.slice none 0 0, .float .f64 0, .int .i64 e])

set_option maxRecDepth 100000 in
set_option maxHeartbeats 400000 in
theorem rchain_k (ao : Option Addr) (n cap : Nat) (k : Int) (w : World) (hk : k < 1 ∨ 12 < k) :
    Calls Try.prog 23 #[.slice ao n cap, .int .i64 k] w fun e w' => e = badC 6 ∧ Below w.heap.size w w' := by
  rcases hk with hk | hk
  · go_enter Try.func23, Try.ntmps23
    go_wp2
    go_ret3
    exact ⟨rfl, Below.refl _ _⟩
  · have hk0 : ¬ k < 1 := by omega
    go_enter Try.func23, Try.ntmps23
    go_wp2
    go_ret3
    exact ⟨rfl, Below.refl _ _⟩

set_option maxRecDepth 100000 in
set_option maxHeartbeats 400000 in
theorem rchain_long (ao : Option Addr) (n cap : Nat) (k : Int) (w : World) (hk1 : 1 ≤ k) (hk2 : k ≤ 12) (hn : 400 < n) :
    Calls Try.prog 23 #[.slice ao n cap, .int .i64 k] w fun e w' => e = badC 1 ∧ Below w.heap.size w w' := by
  have hnI : (400 : Int) < n := by omega
  go_enter Try.func23, Try.ntmps23
  go_wp2
  go_ret3
  exact ⟨rfl, Below.refl _ _⟩

set_option maxRecDepth 100000 in
set_option maxHeartbeats 400000 in
theorem rchain_none (ao : Option Addr) (cap : Nat) (k : Int) (w : World) (hk1 : 1 ≤ k) (hk2 : k ≤ 12) :
    Calls Try.prog 23 #[.slice ao 0 cap, .int .i64 k] w fun e w' => e = badC 7 ∧ Below w.heap.size w w' := by
  go_enter Try.func23, Try.ntmps23
  go_wp2
  go_ret3
  exact ⟨rfl, Below.refl _ _⟩

/-- numbers that may not be -/
def outB (x : Int × Int) : Bool := !(decide (0 ≤ x.1) && decide (x.1 ≤ 10000) && decide (0 ≤ x.2) && decide (x.2 ≤ 10000))

theorem outB_iff (x : Int × Int) : outB x = true ↔ ¬ okA x := by
  unfold outB okA
  simp only [Bool.not_eq_true', Bool.and_eq_false_iff, decide_eq_false_iff_not]
  omega

theorem outB_not (x : Int × Int) : outB x = false ↔ okA x := by
  unfold outB okA
  simp only [Bool.not_eq_false', Bool.and_eq_true, decide_eq_true_iff]
  omega

set_option maxRecDepth 100000 in
set_option maxHeartbeats 1000000 in
theorem rchain_byte (L : List (Int × Int)) (n : Nat) (hn : L.length = n) (g o cap : Nat) (k : Int) (w : World) (hk1 : 1 ≤ k) (hk2 : k ≤ 12) (hL : n ≤ 400) (h0 : 0 < n)
    (hA : ∀ j (hj : j < L.length), w.cell? ⟨g, o + j * 2, none⟩ = some (.int .i64 L[j].1) ∧ w.cell? ⟨g, o + j * 2 + 1, none⟩ = some (.int .i64 L[j].2))
    (hb : ¬ ∀ x ∈ L, okA x) :
    Calls Try.prog 23 #[.slice (some ⟨g, o, none⟩) n cap, .int .i64 k] w fun e w' => e = badC 2 ∧ Below w.heap.size w w' := by
  have HA : Hid (∀ j (hj : j < L.length), w.cell? ⟨g, o + j * 2, none⟩ = some (.int .i64 L[j].1) ∧ w.cell? ⟨g, o + j * 2 + 1, none⟩ = some (.int .i64 L[j].2)) := hA
  have HN : Hid (L.length = n) := hn
  have HB : Hid (¬ ∀ x ∈ L, okA x) := hb
  have hnI : ¬ (400 : Int) < n := by omega
  have hnZ : ¬ ((n : Int) = 0) := by omega
  clear hA hn hb
  go_enter Try.func23, Try.ntmps23
  go_wp2_with fail
  go_loopw [7] (fun iv wr => ∃ i : Nat, i ≤ n ∧ iv = .int .i64 i ∧ Hid (∀ j (hj : j < L.length), j < i → okA L[j]) ∧ ∃ m, wr = w.drewN m) (fun iv _ => n - (intOf iv).toNat)
  case atStart => exact ⟨0, Nat.zero_le _, rfl, fun j hj h => absurd h (by omega), 0, rfl⟩
  case round =>
    obtain ⟨i, hi, rfl, HI, mm, rfl⟩ := hrel
    have hlt : i < n := by
      by_cases hh : i < n
      · exact hh
      · exfalso
        refine HB.out (fun x hx => ?_)
        obtain ⟨j, hj, rfl⟩ := List.getElem_of_mem hx
        exact HI.out j hj (by have := HN.out; omega)
    have hltI : (i : Int) < n := by omega
    obtain ⟨c1, c2⟩ := HA.out i (by rw [HN.out]; exact hlt)
    obtain ⟨xr, hxr⟩ : ∃ x, x = (L[i]'(by rw [HN.out]; exact hlt)).1 := ⟨_, rfl⟩
    obtain ⟨xp, hxp⟩ : ∃ x, x = (L[i]'(by rw [HN.out]; exact hlt)).2 := ⟨_, rfl⟩
    rw [← hxr] at c1
    rw [← hxp] at c2
    have HX : Hid (L[i]'(by rw [HN.out]; exact hlt) = (xr, xp)) := by rw [hxr, hxp]; exact rfl
    clear hxr hxp
    by_cases h1 : xp < 0
    · go_wp2_with fail
      go_ret3
      exact ⟨rfl, belDrewN (Below.refl _ _) _⟩
    · by_cases h2 : 10000 < xp
      · go_wp2_with fail
        go_ret3
        exact ⟨rfl, belDrewN (Below.refl _ _) _⟩
      · by_cases h3 : xr < 0
        · go_wp2_with fail
          go_ret3
          exact ⟨rfl, belDrewN (Below.refl _ _) _⟩
        · by_cases h4 : 10000 < xr
          · go_wp2_with fail
            go_ret3
            exact ⟨rfl, belDrewN (Below.refl _ _) _⟩
          · go_wp2_with fail
            go_roundw
            case rel =>
              refine ⟨i + 1, by omega, by go_num, fun j hj hji => ?_, _, rfl⟩
              by_cases he : j = i
              · subst he; rw [HX.out]; unfold okA; simp only; omega
              · exact HI.out j hj (by omega)
            case measure => simp [intOf]; omega
end Go.Proofs.Ytilcmkiihefkkaa
