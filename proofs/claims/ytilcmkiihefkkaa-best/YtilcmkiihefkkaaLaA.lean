import Derived.Test.YtilcmkiihefkkaaRefG
set_option linter.unusedVariables false
set_option linter.unusedSimpArgs false
namespace Go.Proofs.Ytilcmkiihefkkaa
open Go.RowKit

/-- what two lists of anchors read as -/
def RdC (w : World) (v : Value) (L : List (Int × Int)) : Prop := ∃ ao c, v = .slice ao L.length c ∧ (L = [] ∨ ∃ g o, ao = some ⟨g, o, none⟩ ∧ ∀ j (hj : j < L.length), w.cell? ⟨g, o + j * 2, none⟩ = some (.int .i64 L[j].1) ∧ w.cell? ⟨g, o + j * 2 + 1, none⟩ = some (.int .i64 L[j].2))

theorem RdC.of_own {w : World} {t : TypeId} {base : Nat} {v : Value} {L : List (Int × Int)} (h : OwnR w base t 2 v L.length (acells L)) : RdC w v L := by
  obtain ⟨ao, c, rfl⟩ := h.shape
  refine ⟨ao, c, rfl, ?_⟩
  rcases h.2 with ⟨_, h0⟩ | ⟨g, o, cap, cur, he, _⟩
  · exact Or.inl (List.eq_nil_of_length_eq_zero h0)
  · simp only [Value.slice.injEq] at he
    obtain ⟨rfl, -, rfl⟩ := he
    exact Or.inr ⟨g, o, rfl, h.ans⟩

theorem RdC.drewN {w : World} {v : Value} {L : List (Int × Int)} (h : RdC w v L) (n : Nat) : RdC (w.drewN n) v L := h

set_option maxHeartbeats 400000 in
theorem sameA_some (L : List (Int × Int)) (g o cap g' o' cap' : Nat) (w : World) (hL : L.length < 9223372036854775807)
    (HA : Hid (∀ j (hj : j < L.length), w.cell? ⟨g, o + j * 2, none⟩ = some (.int .i64 L[j].1) ∧ w.cell? ⟨g, o + j * 2 + 1, none⟩ = some (.int .i64 L[j].2)))
    (HB : Hid (∀ j (hj : j < L.length), w.cell? ⟨g', o' + j * 2, none⟩ = some (.int .i64 L[j].1) ∧ w.cell? ⟨g', o' + j * 2 + 1, none⟩ = some (.int .i64 L[j].2))) :
    Calls Try.prog 26 #[.slice (some ⟨g, o, none⟩) L.length cap, .slice (some ⟨g', o', none⟩) L.length cap'] w fun e w' => e = .returned (.bool true) ∧ ∃ n, w' = w.drewN n := by
  obtain ⟨n, hn⟩ : ∃ n, n = L.length := ⟨_, rfl⟩
  have HN : Hid (n = L.length) := hn
  rw [← hn] at hL ⊢
  clear hn
  go_enter Try.func26, Try.ntmps26
  go_wp2
  go_loopw [5] (fun i wr => ∃ k : Nat, k ≤ n ∧ i = .int .i64 k ∧ ∃ m, wr = w.drewN m) (fun i _ => n - (intOf i).toNat)
  case atStart => exact ⟨0, Nat.zero_le _, rfl, 0, rfl⟩
  case round =>
    obtain ⟨k, hk, rfl, m, rfl⟩ := hrel
    by_cases hlt : k < n
    · obtain ⟨a1, a2⟩ := HA.out k (by rw [← HN.out]; exact hlt)
      obtain ⟨b1, b2⟩ := HB.out k (by rw [← HN.out]; exact hlt)
      obtain ⟨h, hh⟩ : ∃ h, h = (L[k]'(by rw [← HN.out]; exact hlt)).1 := ⟨_, rfl⟩
      obtain ⟨p, hp⟩ : ∃ p, p = (L[k]'(by rw [← HN.out]; exact hlt)).2 := ⟨_, rfl⟩
      rw [← hh] at a1 b1
      rw [← hp] at a2 b2
      clear hh hp
      have hltI : (k : Int) < n := by omega
      go_wp2
      go_quiet (fail)
      go_wp2
      go_roundw
      case rel => exact ⟨k + 1, by omega, by go_num, _, rfl⟩
      case measure => simp [intOf]; omega
    · go_wp2
      go_ret
      exact ⟨rfl, m, rfl⟩

set_option maxHeartbeats 400000 in
theorem sameA_nil (ao ao' : Option Addr) (cap cap' : Nat) (w : World) :
    Calls Try.prog 26 #[.slice ao 0 cap, .slice ao' 0 cap'] w fun e w' => e = .returned (.bool true) ∧ ∃ n, w' = w.drewN n := by
  go_enter Try.func26, Try.ntmps26
  go_wp2
  refine wp_loop_rounds 1 ?_
  rw [rounds_succ]
  go_wp2
  go_ret
  exact ⟨rfl, 0, rfl⟩

theorem sameA_any (L : List (Int × Int)) (v v' : Value) (w : World) (hL : L.length < 9223372036854775807) (ha : RdC w v L) (hb : RdC w v' L) :
    Calls Try.prog 26 #[v, v'] w fun e w' => e = .returned (.bool true) ∧ ∃ n, w' = w.drewN n := by
  obtain ⟨ao, c, rfl, ha⟩ := ha
  obtain ⟨ao', c', rfl, hb⟩ := hb
  rcases ha with rfl | ⟨g, o, rfl, ha⟩
  · exact sameA_nil _ _ _ _ _
  · rcases hb with rfl | ⟨g', o', rfl, hb⟩
    · exact sameA_nil _ _ _ _ _
    · exact sameA_some L g o c g' o' c' w hL ha hb
end Go.Proofs.Ytilcmkiihefkkaa
