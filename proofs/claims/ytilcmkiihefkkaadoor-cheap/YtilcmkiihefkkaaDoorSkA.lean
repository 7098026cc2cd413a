import Derived.Test.YtilcmkiihefkkaaDoorSeF
set_option linter.unusedVariables false
set_option linter.unusedSimpArgs false
set_option maxRecDepth 100000
namespace Go.Proofs.YtilcmkiihefkkaaDoor
open Go.RowKit


set_option maxHeartbeats 400000 in
theorem lpick_any (c n : Int) (w : World) (hc : -9223372036854775808 ≤ c ∧ c ≤ 9223372036854775807) (hn : 0 < n) (hn2 : n ≤ 100000) :
    Calls Tryd.prog 10 #[.int .i64 c, .int .i64 n] w fun e w' => ∃ r : Nat, e = .returned (.int .i64 r) ∧ (r : Int) < n ∧ w' = w := by
  have hn0 : (n == 0) = false := by rw [beq_eq_false_iff_ne]; omega
  by_cases h : c < 0
  · have e1 : -((c + 1).tmod n) = (-(c + 1)) % n := by
      rw [← Int.neg_tmod, Int.tmod_eq_emod_of_nonneg (by omega)]
    have h1 := Int.emod_nonneg (-(c + 1)) (show n ≠ 0 by omega)
    have h2 := Int.emod_lt_of_pos (-(c + 1)) hn
    have HE : Hid (-((c + 1).tmod n) = (-(c + 1)) % n) := e1
    have H1 : Hid (0 ≤ (-(c + 1)) % n ∧ (-(c + 1)) % n < n) := ⟨h1, h2⟩
    clear e1 h1 h2
    go_enter Tryd.func10, Tryd.ntmps10
    go_wp2
    go_ret
    refine ⟨((-(c + 1)) % n).toNat, ret_int (HE.out.trans ?_), ?_, rfl⟩ <;> have := H1.out <;> omega
  · have h1 := Int.emod_nonneg c (show n ≠ 0 by omega)
    have h2 := Int.emod_lt_of_pos c hn
    have H1 : Hid (0 ≤ c % n ∧ c % n < n) := ⟨h1, h2⟩
    clear h1 h2
    go_enter Tryd.func10, Tryd.ntmps10
    go_wp2
    go_ret
    refine ⟨(c % n).toNat, ret_int ?_, ?_, rfl⟩ <;> have := H1.out <;> omega


/-- a letter of any byte -/
def cleanB (c : UInt8) : UInt8 :=
  if c = 65 ∨ c = 67 ∨ c = 71 ∨ c = 84 ∨ c = 78 then c else ([65, 67, 71, 84, 78] : List UInt8).getD (c.toNat % 5) 0

theorem cleanB_good (c : UInt8) : 0 ≤ numb (cleanB c) := by
  unfold cleanB
  split
  · rename_i h
    rcases numb_cases c with h' | h' | h' | h' | h' | h' <;> first | omega | (exfalso; rcases h with h | h | h | h | h <;> simp_all)
  · have : c.toNat % 5 < 5 := Nat.mod_lt _ (by omega)
    rcases (show c.toNat % 5 = 0 ∨ c.toNat % 5 = 1 ∨ c.toNat % 5 = 2 ∨ c.toNat % 5 = 3 ∨ c.toNat % 5 = 4 by omega) with h | h | h | h | h <;> rw [h] <;> decide

/-- bases of any text, so many at most -/
def cleanL (l : List UInt8) (n : Nat) : List UInt8 := (l.take n).map cleanB


theorem cleanL_length (l : List UInt8) (n : Nat) : (cleanL l n).length = min n l.length := by simp [cleanL]

theorem clean_step (s : ByteArray) (k : Nat) (hk : k < s.size) (r x : ByteArray) (hr : r = ⟨(cleanL s.data.toList k).toArray⟩) (hx : x.data.toList = [cleanB s[k]]) : r ++ x = ⟨(cleanL s.data.toList (k + 1)).toArray⟩ := by
  have e1 : cleanL s.data.toList (k + 1) = cleanL s.data.toList k ++ [cleanB s[k]] := by
    unfold cleanL
    rw [List.take_succ_eq_append_getElem (by simpa using hk), List.map_append]
    rfl
  rw [e1, hr]
  apply ByteArray.ext
  apply Array.toList_inj.1
  rw [ByteArray.data_append, Array.toList_append, hx]

theorem ext_one (s : ByteArray) (k : Nat) (hk : k < s.size) : (s.extract k (k + 1)).data.toList = [s[k]] := by
  rw [ByteArray.data_extract]
  apply List.ext_getElem
  · simp
    have : k < s.data.size := hk
    omega
  · intro i h1 h2
    have hi : i = 0 := by simp at h2; omega
    subst hi
    simp
    rfl

theorem letter_one (m : Nat) (h : m < 5) : ((⟨#[65, 67, 71, 84, 78]⟩ : ByteArray).extract m (m + 1)).data.toList = [([65, 67, 71, 84, 78] : List UInt8).getD m 0] := by
  rcases (show m = 0 ∨ m = 1 ∨ m = 2 ∨ m = 3 ∨ m = 4 by omega) with rfl | rfl | rfl | rfl | rfl <;> decide

set_option maxRecDepth 100000 in
set_option maxHeartbeats 4000000 in
theorem clean_any (s : ByteArray) (M : Nat) (hM : M ≤ 1000) (w : World) (hs : s.size ≤ 140737488351232) :
    Calls Tryd.prog 7 #[.string s, .int .i64 M] w fun e w' => e = .returned (.string ⟨(cleanL s.data.toList M).toArray⟩) ∧ w' = w := by
  go_enter Tryd.func7, Tryd.ntmps7
  go_wp2
  go_loop [5, 6] (fun out i => ∃ (k : Nat) (r : ByteArray), k ≤ s.size ∧ k ≤ M ∧ i = .int .i64 k ∧ out = .string r ∧ r = ⟨(cleanL s.data.toList k).toArray⟩) (fun _ i => M - (intOf i).toNat)
  case atStart => exact ⟨0, _, Nat.zero_le _, Nat.zero_le _, rfl, rfl, rfl⟩
  case round =>
    obtain ⟨k, r, hk, hk3, rfl, rfl, hr⟩ := hrel
    have hrs2 : r.size ≤ M := by
      rw [hr]
      show (cleanL s.data.toList k).toArray.size ≤ M
      rw [List.size_toArray, cleanL_length]
      omega
    have HR : Hid (r = ⟨(cleanL s.data.toList k).toArray⟩) := hr
    clear hr
    by_cases hlt : k < s.size
    · by_cases h2 : (k : Int) < M
      · by_cases hin : s[k] = 65 ∨ s[k] = 67 ∨ s[k] = 71 ∨ s[k] = 84 ∨ s[k] = 78
        · have HI : Hid (cleanB s[k] = s[k]) := by show _ = _; unfold cleanB; rw [if_pos hin]
          rcases hin with h | h | h | h | h
          · have q1 : ((s[k].toNat : Int) == 65) = true := by rw [h]; rfl
            clear h
            go_wp2
            go_round
            case rel => exact ⟨k + 1, _, by omega, by omega, by go_num, rfl, clean_step s k hlt r _ HR.out (by rw [HI.out]; exact ext_one s k hlt)⟩
            case measure => simp [intOf]; omega
          · have q1 : ((s[k].toNat : Int) == 65) = false := by rw [h]; rfl
            have q2 : ((s[k].toNat : Int) == 67) = true := by rw [h]; rfl
            clear h
            go_wp2
            go_round
            case rel => exact ⟨k + 1, _, by omega, by omega, by go_num, rfl, clean_step s k hlt r _ HR.out (by rw [HI.out]; exact ext_one s k hlt)⟩
            case measure => simp [intOf]; omega
          · have q1 : ((s[k].toNat : Int) == 65) = false := by rw [h]; rfl
            have q2 : ((s[k].toNat : Int) == 67) = false := by rw [h]; rfl
            have q3 : ((s[k].toNat : Int) == 71) = true := by rw [h]; rfl
            clear h
            go_wp2
            go_round
            case rel => exact ⟨k + 1, _, by omega, by omega, by go_num, rfl, clean_step s k hlt r _ HR.out (by rw [HI.out]; exact ext_one s k hlt)⟩
            case measure => simp [intOf]; omega
          · have q1 : ((s[k].toNat : Int) == 65) = false := by rw [h]; rfl
            have q2 : ((s[k].toNat : Int) == 67) = false := by rw [h]; rfl
            have q3 : ((s[k].toNat : Int) == 71) = false := by rw [h]; rfl
            have q4 : ((s[k].toNat : Int) == 84) = true := by rw [h]; rfl
            clear h
            go_wp2
            go_round
            case rel => exact ⟨k + 1, _, by omega, by omega, by go_num, rfl, clean_step s k hlt r _ HR.out (by rw [HI.out]; exact ext_one s k hlt)⟩
            case measure => simp [intOf]; omega
          · have q1 : ((s[k].toNat : Int) == 65) = false := by rw [h]; rfl
            have q2 : ((s[k].toNat : Int) == 67) = false := by rw [h]; rfl
            have q3 : ((s[k].toNat : Int) == 71) = false := by rw [h]; rfl
            have q4 : ((s[k].toNat : Int) == 84) = false := by rw [h]; rfl
            have q5 : ((s[k].toNat : Int) == 78) = true := by rw [h]; rfl
            clear h
            go_wp2
            go_round
            case rel => exact ⟨k + 1, _, by omega, by omega, by go_num, rfl, clean_step s k hlt r _ HR.out (by rw [HI.out]; exact ext_one s k hlt)⟩
            case measure => simp [intOf]; omega
        · have q1 : ((s[k].toNat : Int) == 65) = false := by rw [Bool.eq_false_iff]; intro h; exact hin (Or.inl ((eqs s[k] 65 (by omega)).1 h))
          have q2 : ((s[k].toNat : Int) == 67) = false := by rw [Bool.eq_false_iff]; intro h; exact hin (Or.inr (Or.inl ((eqs s[k] 67 (by omega)).1 h)))
          have q3 : ((s[k].toNat : Int) == 71) = false := by rw [Bool.eq_false_iff]; intro h; exact hin (Or.inr (Or.inr (Or.inl ((eqs s[k] 71 (by omega)).1 h))))
          have q4 : ((s[k].toNat : Int) == 84) = false := by rw [Bool.eq_false_iff]; intro h; exact hin (Or.inr (Or.inr (Or.inr (Or.inl ((eqs s[k] 84 (by omega)).1 h)))))
          have q5 : ((s[k].toNat : Int) == 78) = false := by rw [Bool.eq_false_iff]; intro h; exact hin (Or.inr (Or.inr (Or.inr (Or.inr ((eqs s[k] 78 (by omega)).1 h)))))
          have HI : Hid (cleanB s[k] = ([65, 67, 71, 84, 78] : List UInt8).getD (s[k].toNat % 5) 0) := by show _ = _; unfold cleanB; rw [if_neg hin]
          clear hin
          obtain ⟨m, hm⟩ : ∃ m, m = s[k].toNat % 5 := ⟨_, rfl⟩
          have hm5 : m < 5 := by omega
          have hmI : ((s[k].toNat : Int) % 5) = (m : Int) := by omega
          have hsb : (s[k].toNat : Int) < 256 := by have := s[k].toNat_lt; omega
          have hm5' : (m : Int) + 1 ≤ 5 := by omega
          rw [← hm] at HI
          clear hm
          go_wp2
          go_round
          case rel => exact ⟨k + 1, _, by omega, by omega, by go_num, rfl, clean_step s k hlt r _ HR.out (by rw [HI.out]; exact letter_one m hm5)⟩
          case measure => simp [intOf]; omega
      · go_wp2
        go_ret
        refine ⟨?_, rfl⟩
        have : k = M := by omega
        subst this
        show Ending.returned (.string r) = _
        rw [HR.out]
    · go_wp2
      go_ret
      refine ⟨?_, rfl⟩
      show Ending.returned (.string r) = _
      rw [HR.out]
      have e : cleanL s.data.toList k = cleanL s.data.toList M := by
        unfold cleanL
        have hl : s.data.toList.length = s.size := Array.length_toList
        rw [List.take_of_length_le (by omega), List.take_of_length_le (by omega)]
      rw [e]

end Go.Proofs.YtilcmkiihefkkaaDoor
