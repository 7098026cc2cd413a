import Derived.Test.YtilcmkiihefkkaaProg
import Derived.Test.YtilcmkiihefkkaaChA
import Derived.WalkKit
import Derived.WalkSpells
import Derived.WalkLawsBesides
import Derived.RegionTactic
import Derived.ChangeAlike
import Derived.BigRegion
import Derived.Below
set_option linter.unusedVariables false
set_option linter.unusedSimpArgs false
namespace Go.Proofs.Ytilcmkiihefkkaa
open Go.RowKit

/-- an anchor as a value -/
def anV (x : Int × Int) : Value := .agg #[.int .i64 x.1, .int .i64 x.2]

/-- numbers of an anchor that may be -/
def okA (x : Int × Int) : Prop := 0 ≤ x.1 ∧ x.1 ≤ 10000 ∧ 0 ≤ x.2 ∧ x.2 ≤ 10000

set_option maxHeartbeats 400000 in
theorem rbefore_any (a b : Int × Int) (w : World) :
    Calls Try.prog 63 #[.agg #[.int .i64 a.1, .int .i64 a.2], .agg #[.int .i64 b.1, .int .i64 b.2]] w fun e w' => e = .returned (.bool (befB a b)) ∧ Below w.heap.size w w' := by
  obtain ⟨ar, ap⟩ := a
  obtain ⟨br, bp⟩ := b
  have HB : Hid (∀ c : Bool, (c = (decide (ap < bp) || (decide (ap = bp) && decide (ar < br)))) → c = befB (ar, ap) (br, bp)) := by
    intro c hc
    rw [hc]
    rfl
  have al : ∀ (o p : Obj), Below w.heap.size w ((w.alloc o).alloc p) := fun o p => ((Below.refl _ w).alloc (Nat.le_refl _) o).alloc (by simp) p
  by_cases h1 : ap < bp
  · have HC := HB.out true (by simp [h1])
    have HC2 : Hid (true = befB (ar, ap) (br, bp)) := HC
    clear HC
    go_enter Try.func63, Try.ntmps63
    go_wp2
    go_ret
    exact ⟨congrArg (fun b => Ending.returned (.bool b)) HC2.out, al _ _⟩
  · by_cases h2 : ap = bp
    · have HC2 : Hid (decide (ar < br) = befB (ar, ap) (br, bp)) := HB.out _ (by simp [h2])
      subst h2
      go_enter Try.func63, Try.ntmps63
      go_wp2
      go_ret
      exact ⟨congrArg (fun b => Ending.returned (.bool b)) HC2.out, al _ _⟩
    · have HC2 : Hid (false = befB (ar, ap) (br, bp)) := HB.out _ (by simp [h1, h2])
      go_enter Try.func63, Try.ntmps63
      go_wp2
      go_ret
      exact ⟨congrArg (fun b => Ending.returned (.bool b)) HC2.out, al _ _⟩

theorem bitLenAux_more : ∀ (f x : Nat), x < 2 ^ f → Go.Lib.bitLenAux (f + 1) x = Go.Lib.bitLenAux f x
  | 0, x, h => by
    have : x = 0 := by simpa using h
    subst this; rfl
  | f + 1, x, h => by
    unfold Go.Lib.bitLenAux
    by_cases h0 : x = 0
    · rw [if_pos h0, if_pos h0]
    · rw [if_neg h0, if_neg h0, bitLenAux_more f (x / 2) (by rw [Nat.pow_succ] at h; omega)]

theorem bitLen_half (n : Nat) (h : 0 < n) (h2 : n < 1048576) : Go.Lib.bitLen n = Go.Lib.bitLen (n / 2) + 1 := by
  have h3 : n / 2 < 2 ^ 63 := by
    have : (1048576 : Nat) ≤ 2 ^ 63 := by decide
    omega
  unfold Go.Lib.bitLen
  rw [← bitLenAux_more 64 n (by have : (1048576 : Nat) ≤ 2 ^ 64 := by decide
                                omega)]
  show (if n = 0 then 0 else 1 + Go.Lib.bitLenAux 64 (n / 2)) = _
  rw [if_neg (by omega), Nat.add_comm]

theorem bitLen_le20 (n : Nat) (h2 : n < 1048576) : Go.Lib.bitLen n ≤ 20 := by
  have : ∀ f n, n < 2 ^ f → ∀ g, Go.Lib.bitLenAux g n ≤ f := by
    intro f
    induction f with
    | zero => intro n h g
              have : n = 0 := by simpa using h
              subst this
              cases g <;> simp [Go.Lib.bitLenAux]
    | succ f ih =>
      intro n h g
      cases g with
      | zero => simp [Go.Lib.bitLenAux]
      | succ g =>
        unfold Go.Lib.bitLenAux
        split
        · omega
        · have := ih (n / 2) (by rw [Nat.pow_succ] at h; omega) g
          omega
  exact this 20 n (by simpa using h2) 64

set_option maxHeartbeats 400000 in
theorem rbitsOf_any (n : Nat) (w : World) (hn : n < 1048576) :
    Calls Try.prog 64 #[.int .i64 n] w fun e w' => e = .returned (.int .i64 (Go.Lib.bitLen n : Nat)) ∧ w' = w := by
  have HL : Hid (Go.Lib.bitLen n ≤ 20) := bitLen_le20 n hn
  obtain ⟨L, hL⟩ : ∃ L, L = Go.Lib.bitLen n := ⟨_, rfl⟩
  rw [← hL]
  rw [← hL] at HL
  have H0 : Hid (0 + Go.Lib.bitLen n = L) := by rw [hL]; exact Nat.zero_add _
  clear hL
  go_enter Try.func64, Try.ntmps64
  go_wp2
  go_loopw [0, 3] (fun i b wr => ∃ m c : Nat, i = .int .i64 m ∧ b = .int .i64 c ∧ m < 1048576 ∧ Hid (c + Go.Lib.bitLen m = L) ∧ c < 100 ∧ wr = w) (fun i _ _ => (intOf i).toNat)
  case atStart => exact ⟨n, 0, rfl, rfl, hn, H0, by omega, by first | rfl | trivial⟩
  case round =>
    obtain ⟨m, c, rfl, rfl, hm, hc, hc2, rfl⟩ := hrel
    by_cases hlt : 0 < m
    · have HB : Hid (Go.Lib.bitLen m = Go.Lib.bitLen (m / 2) + 1) := bitLen_half m hlt hm
      have HT : Hid ((m : Int).tdiv 2 = ((m / 2 : Nat) : Int)) := by
        show (m : Int).tdiv 2 = _
        rw [Int.tdiv_eq_ediv_of_nonneg (by omega)]; omega
      have hltI : (0 : Int) < m := by omega
      go_wp2
      go_roundw
      case rel =>
        refine ⟨m / 2, c + 1, ?_, by go_num, by omega, ?_, ?_, by first | rfl | trivial⟩
        · have := HT.out; first | (rw [this]) | go_num | simp_all
        · have h1 := HB.out; have h2 := hc.out
          show c + 1 + _ = L
          omega
        · have h1 := HB.out; have h2 := hc.out; have h3 := HL.out
          omega
      case measure => have := HT.out; simp [intOf]; omega
    · have hm0 : m = 0 := by omega
      subst hm0
      have h2 := hc.out
      have hcL : c = L := by simpa [Go.Lib.bitLen, Go.Lib.bitLenAux] using h2
      subst hcL
      clear h2 hc H0 HL
      go_wp2
      go_ret
      exact ⟨rfl, rfl⟩

end Go.Proofs.Ytilcmkiihefkkaa
