import Derived.Test.YtilcmkiihefkkaaLawA
set_option linter.unusedVariables false
set_option linter.unusedSimpArgs false
set_option maxRecDepth 100000
namespace Go.Proofs.Ytilcmkiihefkkaa
open Go.RowKit

theorem eqs (c : UInt8) (n : Nat) (hn : n < 256) : (((c.toNat : Int) == (n : Int)) = true ↔ c = UInt8.ofNat n) := by
  rw [beq_iff_eq]
  constructor
  · intro h
    apply UInt8.toNat_inj.1
    rw [UInt8.toNat_ofNat']
    omega
  · intro h
    subst h
    rw [UInt8.toNat_ofNat']
    omega

theorem cleanL_length (l : List UInt8) (n : Nat) : (cleanL l n).length = min n l.length := by simp [cleanL]

theorem clean_step (s : ByteArray) (k : Nat) (hk : k < s.size) (r x : ByteArray) (hr : r = ⟨(cleanL s.data.toList k).toArray⟩) (hx : x.data.toList = [cleanB s[k]]) : r ++ x = ⟨(cleanL s.data.toList (k + 1)).toArray⟩ := by
  have e1 : cleanL s.data.toList (k + 1) = cleanL s.data.toList k ++ [cleanB s[k]] := by
    unfold cleanL
    rw [List.take_succ_eq_append_getElem (by simpa using hk), List.map_append]
    rfl
  rw [e1, hr]
  apply ByteArray.ext
  apply Array.toList_inj.1
  rw [ByteArray.data_append, Array.toList_append, hx]

theorem extract_one (s : ByteArray) (k : Nat) (hk : k < s.size) : (s.extract k (k + 1)).data.toList = [s[k]] := by
  rw [ByteArray.data_extract]
  apply List.ext_getElem
  · simp
    have : k < s.data.size := hk
    omega
  · intro i h1 h2
    have hi : i = 0 := by simp at h2; omega
    subst hi
    simp
    rfl

theorem letter_one (m : Nat) (h : m < 5) : ((⟨#[65, 67, 71, 84, 78]⟩ : ByteArray).extract m (m + 1)).data.toList = [([65, 67, 71, 84, 78] : List UInt8).getD m 0] := by
  rcases (show m = 0 ∨ m = 1 ∨ m = 2 ∨ m = 3 ∨ m = 4 by omega) with rfl | rfl | rfl | rfl | rfl <;> decide

set_option maxRecDepth 100000 in
set_option maxHeartbeats 4000000 in
theorem clean_any (s : ByteArray) (w : World) (hs : s.size ≤ 140737488351232) :
    Calls Try.prog 21 #[.string s, .int .i64 300] w fun e w' => e = .returned (.string ⟨(cleanL s.data.toList 300).toArray⟩) ∧ w' = w := by
  go_enter Try.func21, Try.ntmps21
  go_wp2
  go_loop [5, 6] (fun out i => ∃ (k : Nat) (r : ByteArray), k ≤ s.size ∧ k ≤ 300 ∧ i = .int .i64 k ∧ out = .string r ∧ r = ⟨(cleanL s.data.toList k).toArray⟩) (fun _ i => 300 - (intOf i).toNat)
  case atStart => exact ⟨0, _, Nat.zero_le _, Nat.zero_le _, rfl, rfl, rfl⟩
  case round =>
    obtain ⟨k, r, hk, hk3, rfl, rfl, hr⟩ := hrel
    have hrs2 : r.size ≤ 300 := by
      rw [hr]
      show (cleanL s.data.toList k).toArray.size ≤ 300
      rw [List.size_toArray, cleanL_length]
      omega
    have HR : Hid (r = ⟨(cleanL s.data.toList k).toArray⟩) := hr
    clear hr
    by_cases hlt : k < s.size
    · by_cases h2 : (k : Int) < 300
      · by_cases hin : s[k] = 65 ∨ s[k] = 67 ∨ s[k] = 71 ∨ s[k] = 84 ∨ s[k] = 78
        · have HI : Hid (cleanB s[k] = s[k]) := by show _ = _; unfold cleanB; rw [if_pos hin]
          rcases hin with h | h | h | h | h
          · have q1 : ((s[k].toNat : Int) == 65) = true := by rw [h]; rfl
            clear h
            go_wp2
            go_round
            case rel => exact ⟨k + 1, _, by omega, by omega, by go_num, rfl, clean_step s k hlt r _ HR.out (by rw [HI.out]; exact extract_one s k hlt)⟩
            case measure => simp [intOf]; omega
          · have q1 : ((s[k].toNat : Int) == 65) = false := by rw [h]; rfl
            have q2 : ((s[k].toNat : Int) == 67) = true := by rw [h]; rfl
            clear h
            go_wp2
            go_round
            case rel => exact ⟨k + 1, _, by omega, by omega, by go_num, rfl, clean_step s k hlt r _ HR.out (by rw [HI.out]; exact extract_one s k hlt)⟩
            case measure => simp [intOf]; omega
          · have q1 : ((s[k].toNat : Int) == 65) = false := by rw [h]; rfl
            have q2 : ((s[k].toNat : Int) == 67) = false := by rw [h]; rfl
            have q3 : ((s[k].toNat : Int) == 71) = true := by rw [h]; rfl
            clear h
            go_wp2
            go_round
            case rel => exact ⟨k + 1, _, by omega, by omega, by go_num, rfl, clean_step s k hlt r _ HR.out (by rw [HI.out]; exact extract_one s k hlt)⟩
            case measure => simp [intOf]; omega
          · have q1 : ((s[k].toNat : Int) == 65) = false := by rw [h]; rfl
            have q2 : ((s[k].toNat : Int) == 67) = false := by rw [h]; rfl
            have q3 : ((s[k].toNat : Int) == 71) = false := by rw [h]; rfl
            have q4 : ((s[k].toNat : Int) == 84) = true := by rw [h]; rfl
            clear h
            go_wp2
            go_round
            case rel => exact ⟨k + 1, _, by omega, by omega, by go_num, rfl, clean_step s k hlt r _ HR.out (by rw [HI.out]; exact extract_one s k hlt)⟩
            case measure => simp [intOf]; omega
          · have q1 : ((s[k].toNat : Int) == 65) = false := by rw [h]; rfl
            have q2 : ((s[k].toNat : Int) == 67) = false := by rw [h]; rfl
            have q3 : ((s[k].toNat : Int) == 71) = false := by rw [h]; rfl
            have q4 : ((s[k].toNat : Int) == 84) = false := by rw [h]; rfl
            have q5 : ((s[k].toNat : Int) == 78) = true := by rw [h]; rfl
            clear h
            go_wp2
            go_round
            case rel => exact ⟨k + 1, _, by omega, by omega, by go_num, rfl, clean_step s k hlt r _ HR.out (by rw [HI.out]; exact extract_one s k hlt)⟩
            case measure => simp [intOf]; omega
        · have q1 : ((s[k].toNat : Int) == 65) = false := by rw [Bool.eq_false_iff]; intro h; exact hin (Or.inl ((eqs s[k] 65 (by omega)).1 h))
          have q2 : ((s[k].toNat : Int) == 67) = false := by rw [Bool.eq_false_iff]; intro h; exact hin (Or.inr (Or.inl ((eqs s[k] 67 (by omega)).1 h)))
          have q3 : ((s[k].toNat : Int) == 71) = false := by rw [Bool.eq_false_iff]; intro h; exact hin (Or.inr (Or.inr (Or.inl ((eqs s[k] 71 (by omega)).1 h))))
          have q4 : ((s[k].toNat : Int) == 84) = false := by rw [Bool.eq_false_iff]; intro h; exact hin (Or.inr (Or.inr (Or.inr (Or.inl ((eqs s[k] 84 (by omega)).1 h)))))
          have q5 : ((s[k].toNat : Int) == 78) = false := by rw [Bool.eq_false_iff]; intro h; exact hin (Or.inr (Or.inr (Or.inr (Or.inr ((eqs s[k] 78 (by omega)).1 h)))))
          have HI : Hid (cleanB s[k] = ([65, 67, 71, 84, 78] : List UInt8).getD (s[k].toNat % 5) 0) := by show _ = _; unfold cleanB; rw [if_neg hin]
          clear hin
          obtain ⟨m, hm⟩ : ∃ m, m = s[k].toNat % 5 := ⟨_, rfl⟩
          have hm5 : m < 5 := by omega
          have hmI : ((s[k].toNat : Int) % 5) = (m : Int) := by omega
          have hsb : (s[k].toNat : Int) < 256 := by have := s[k].toNat_lt; omega
          have hm5' : (m : Int) + 1 ≤ 5 := by omega
          rw [← hm] at HI
          clear hm
          go_wp2
          go_round
          case rel => exact ⟨k + 1, _, by omega, by omega, by go_num, rfl, clean_step s k hlt r _ HR.out (by rw [HI.out]; exact letter_one m hm5)⟩
          case measure => simp [intOf]; omega
      · go_wp2
        go_ret
        refine ⟨?_, rfl⟩
        have : k = 300 := by omega
        subst this
        show Ending.returned (.string r) = _
        rw [HR.out]
    · go_wp2
      go_ret
      refine ⟨?_, rfl⟩
      show Ending.returned (.string r) = _
      rw [HR.out]
      have e : cleanL s.data.toList k = cleanL s.data.toList 300 := by
        unfold cleanL
        have hl : s.data.toList.length = s.size := Array.length_toList
        rw [List.take_of_length_le (by omega), List.take_of_length_le (by omega)]
      rw [e]
end Go.Proofs.Ytilcmkiihefkkaa
