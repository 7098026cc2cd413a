import Derived.Test.YtilcmkiihefkkaaWords
set_option linter.unusedVariables false
set_option linter.unusedSimpArgs false
set_option maxRecDepth 100000
namespace Go.Proofs.Ytilcmkiihefkkaa
open Go.RowKit

set_option maxHeartbeats 400000 in
theorem lpick_any (c n : Int) (w : World) (hc : -9223372036854775808 ≤ c ∧ c ≤ 9223372036854775807) (hn : 0 < n) (hn2 : n ≤ 100000) :
    Calls Try.prog 22 #[.int .i64 c, .int .i64 n] w fun e w' => ∃ r : Nat, e = .returned (.int .i64 r) ∧ (r : Int) < n ∧ w' = w := by
  have hn0 : (n == 0) = false := by rw [beq_eq_false_iff_ne]; omega
  by_cases h : c < 0
  · have e1 : -((c + 1).tmod n) = (-(c + 1)) % n := by
      rw [← Int.neg_tmod, Int.tmod_eq_emod_of_nonneg (by omega)]
    have h1 := Int.emod_nonneg (-(c + 1)) (show n ≠ 0 by omega)
    have h2 := Int.emod_lt_of_pos (-(c + 1)) hn
    have HE : Hid (-((c + 1).tmod n) = (-(c + 1)) % n) := e1
    have H1 : Hid (0 ≤ (-(c + 1)) % n ∧ (-(c + 1)) % n < n) := ⟨h1, h2⟩
    clear e1 h1 h2
    go_enter Try.func22, Try.ntmps22
    go_wp2
    go_ret
    refine ⟨((-(c + 1)) % n).toNat, ret_int (HE.out.trans ?_), ?_, rfl⟩ <;> have := H1.out <;> omega
  · have h1 := Int.emod_nonneg c (show n ≠ 0 by omega)
    have h2 := Int.emod_lt_of_pos c hn
    have H1 : Hid (0 ≤ c % n ∧ c % n < n) := ⟨h1, h2⟩
    clear h1 h2
    go_enter Try.func22, Try.ntmps22
    go_wp2
    go_ret
    refine ⟨(c % n).toNat, ret_int ?_, ?_, rfl⟩ <;> have := H1.out <;> omega

set_option maxHeartbeats 400000 in
theorem sameWords_some (L : List W3) (base base' g o cap g' o' cap' : Nat) (w : World) (hL : L.length < 4398046511104)
    (ha : OwnR w base 50 3 (.slice (some ⟨g, o, none⟩) L.length cap) L.length (wcells L)) (hb : OwnR w base' 50 3 (.slice (some ⟨g', o', none⟩) L.length cap') L.length (wcells L)) :
    Calls Try.prog 18 #[.slice (some ⟨g, o, none⟩) L.length cap, .slice (some ⟨g', o', none⟩) L.length cap'] w fun e w' => e = .returned (.bool true) ∧ ∃ n, w' = w.drewN n := by
  have hca : ∀ j (hj : j < L.length), w.cell? ⟨g, o + j * 3, none⟩ = some (.int .i64 L[j].h) ∧ w.cell? ⟨g, o + j * 3 + 1, none⟩ = some (.int .i64 L[j].p) ∧ w.cell? ⟨g, o + j * 3 + 2, none⟩ = some (.bool L[j].b) := by
    rcases ha.2 with ⟨h, _⟩ | ⟨_, _, _, cur, he, h1, h2, h3, h4, h5, h6⟩
    · simp at h
    · simp only [Value.slice.injEq, Option.some.injEq, Addr.mk.injEq, and_true, true_and] at he
      obtain ⟨⟨rfl, rfl⟩, rfl⟩ := he
      intro j hj
      have := wcells_at L j hj
      rw [Nat.mul_comm]
      exact ⟨cell_at h2 (h6 _ _ this.1), cell_at h2 (h6 _ _ this.2.1), cell_at h2 (h6 _ _ this.2.2)⟩
  have hcb : ∀ j (hj : j < L.length), w.cell? ⟨g', o' + j * 3, none⟩ = some (.int .i64 L[j].h) ∧ w.cell? ⟨g', o' + j * 3 + 1, none⟩ = some (.int .i64 L[j].p) ∧ w.cell? ⟨g', o' + j * 3 + 2, none⟩ = some (.bool L[j].b) := by
    rcases hb.2 with ⟨h, _⟩ | ⟨_, _, _, cur, he, h1, h2, h3, h4, h5, h6⟩
    · simp at h
    · simp only [Value.slice.injEq, Option.some.injEq, Addr.mk.injEq, and_true, true_and] at he
      obtain ⟨⟨rfl, rfl⟩, rfl⟩ := he
      intro j hj
      have := wcells_at L j hj
      rw [Nat.mul_comm]
      exact ⟨cell_at h2 (h6 _ _ this.1), cell_at h2 (h6 _ _ this.2.1), cell_at h2 (h6 _ _ this.2.2)⟩
  clear ha hb
  have HA : Hid (∀ j (hj : j < L.length), w.cell? ⟨g, o + j * 3, none⟩ = some (.int .i64 L[j].h) ∧ w.cell? ⟨g, o + j * 3 + 1, none⟩ = some (.int .i64 L[j].p) ∧ w.cell? ⟨g, o + j * 3 + 2, none⟩ = some (.bool L[j].b)) := hca
  have HB : Hid (∀ j (hj : j < L.length), w.cell? ⟨g', o' + j * 3, none⟩ = some (.int .i64 L[j].h) ∧ w.cell? ⟨g', o' + j * 3 + 1, none⟩ = some (.int .i64 L[j].p) ∧ w.cell? ⟨g', o' + j * 3 + 2, none⟩ = some (.bool L[j].b)) := hcb
  clear hca hcb
  obtain ⟨n, hn⟩ : ∃ n, n = L.length := ⟨_, rfl⟩
  have HN : Hid (n = L.length) := hn
  rw [← hn] at hL ⊢
  clear hn
  go_enter Try.func18, Try.ntmps18
  go_wp2
  go_loopw [5] (fun i wr => ∃ k : Nat, k ≤ n ∧ i = .int .i64 k ∧ ∃ m, wr = w.drewN m) (fun i _ => n - (intOf i).toNat)
  case atStart => exact ⟨0, Nat.zero_le _, rfl, 0, rfl⟩
  case round =>
    obtain ⟨k, hk, rfl, m, rfl⟩ := hrel
    by_cases hlt : k < n
    · obtain ⟨a1, a2, a3⟩ := HA.out k (by rw [← HN.out]; exact hlt)
      obtain ⟨b1, b2, b3⟩ := HB.out k (by rw [← HN.out]; exact hlt)
      obtain ⟨h, hh⟩ : ∃ h, h = (L[k]'(by rw [← HN.out]; exact hlt)).h := ⟨_, rfl⟩
      obtain ⟨p, hp⟩ : ∃ p, p = (L[k]'(by rw [← HN.out]; exact hlt)).p := ⟨_, rfl⟩
      obtain ⟨b, hb⟩ : ∃ b, b = (L[k]'(by rw [← HN.out]; exact hlt)).b := ⟨_, rfl⟩
      rw [← hh] at a1 b1
      rw [← hp] at a2 b2
      rw [← hb] at a3 b3
      clear hh hp hb
      have hltI : (k : Int) < n := by omega
      go_wp2
      go_quiet (fail)
      go_wp2
      go_roundw
      case rel => exact ⟨k + 1, by omega, by go_num, _, rfl⟩
      case measure => simp [intOf]; omega
    · go_wp2
      go_ret
      exact ⟨rfl, m, rfl⟩

set_option maxHeartbeats 400000 in
theorem sameWords_nil (ao ao' : Option Addr) (cap cap' : Nat) (w : World) :
    Calls Try.prog 18 #[.slice ao 0 cap, .slice ao' 0 cap'] w fun e w' => e = .returned (.bool true) ∧ ∃ n, w' = w.drewN n := by
  go_enter Try.func18, Try.ntmps18
  go_wp2
  refine wp_loop_rounds 1 ?_
  rw [rounds_succ]
  go_wp2
  go_ret
  exact ⟨rfl, 0, rfl⟩

theorem sameWords_any (L : List W3) (base base' : Nat) (v v' : Value) (w : World) (hL : L.length < 4398046511104)
    (ha : OwnR w base 50 3 v L.length (wcells L)) (hb : OwnR w base' 50 3 v' L.length (wcells L)) :
    Calls Try.prog 18 #[v, v'] w fun e w' => e = .returned (.bool true) ∧ ∃ n, w' = w.drewN n := by
  have ha2 := ha.2
  have hb2 := hb.2
  by_cases h0 : L.length = 0
  · rw [h0] at ha2 hb2
    rcases ha2 with ⟨rfl, _⟩ | ⟨_, _, _, _, rfl, _⟩ <;> rcases hb2 with ⟨rfl, _⟩ | ⟨_, _, _, _, rfl, _⟩ <;> exact sameWords_nil _ _ _ _ _
  · rcases ha2 with ⟨_, h⟩ | ⟨g, o, cap, cur, rfl, _⟩
    · omega
    · rcases hb2 with ⟨_, h⟩ | ⟨g', o', cap', cur', rfl, _⟩
      · omega
      · exact sameWords_some L base base' g o cap g' o' cap' w hL ha hb

/-- a letter of any byte -/
def cleanB (c : UInt8) : UInt8 :=
  if c = 65 ∨ c = 67 ∨ c = 71 ∨ c = 84 ∨ c = 78 then c else ([65, 67, 71, 84, 78] : List UInt8).getD (c.toNat % 5) 0

theorem cleanB_good (c : UInt8) : 0 ≤ numb (cleanB c) := by
  unfold cleanB
  split
  · rename_i h
    rcases numb_cases c with h' | h' | h' | h' | h' | h' <;> first | omega | (exfalso; rcases h with h | h | h | h | h <;> simp_all)
  · have : c.toNat % 5 < 5 := Nat.mod_lt _ (by omega)
    rcases (show c.toNat % 5 = 0 ∨ c.toNat % 5 = 1 ∨ c.toNat % 5 = 2 ∨ c.toNat % 5 = 3 ∨ c.toNat % 5 = 4 by omega) with h | h | h | h | h <;> rw [h] <;> decide

/-- bases of any text, so many at most -/
def cleanL (l : List UInt8) (n : Nat) : List UInt8 := (l.take n).map cleanB

end Go.Proofs.Ytilcmkiihefkkaa
