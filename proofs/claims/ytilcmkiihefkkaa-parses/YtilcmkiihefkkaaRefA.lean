import Derived.Test.YtilcmkiihefkkaaTurnsW
import Derived.Test.YtilcmkiihefkkaaPureD
set_option linter.unusedVariables false
set_option linter.unusedSimpArgs false
set_option maxRecDepth 100000
namespace Go.Proofs.Ytilcmkiihefkkaa
open Go.RowKit

theorem letter_eq (c : UInt8) : ((65 : Int) == (c.toNat : Int)) = decide (numb c = 0) ∧ ((67 : Int) == (c.toNat : Int)) = decide (numb c = 1) ∧ ((71 : Int) == (c.toNat : Int)) = decide (numb c = 2) ∧ ((84 : Int) == (c.toNat : Int)) = decide (numb c = 3) ∧ ((78 : Int) == (c.toNat : Int)) = decide (numb c = 4) := by
  rcases numb_cases c with ⟨rfl, h⟩ | ⟨rfl, h⟩ | ⟨rfl, h⟩ | ⟨rfl, h⟩ | ⟨rfl, h⟩ | ⟨h, h1, h2, h3, h4, h5⟩
  · rw [h]; decide
  · rw [h]; decide
  · rw [h]; decide
  · rw [h]; decide
  · rw [h]; decide
  · rw [h]
    have q : ∀ n : Nat, n < 256 → c ≠ UInt8.ofNat n → ((n : Int) == (c.toNat : Int)) = false := by
      intro n hn hne
      rw [Bool.eq_false_iff]
      intro he
      apply hne
      apply (eqs c n hn).1
      rw [beq_iff_eq] at he ⊢
      exact he.symm
    exact ⟨q 65 (by omega) h1, q 67 (by omega) h2, q 71 (by omega) h3, q 84 (by omega) h4, q 78 (by omega) h5⟩

set_option maxRecDepth 100000 in
set_option maxHeartbeats 1000000 in
theorem rbase_any (c : UInt8) (w : World) :
    Calls Try.prog 39 #[.int .u8 c.toNat] w fun e w' => e = .returned (.int .i64 (numb c)) ∧ w' = w := by
  obtain ⟨l0, l1, l2, l3, l4⟩ := letter_eq c
  have hb := numb_lt c
  go_enter Try.func39, Try.ntmps39
  go_wp2
  go_loop [4] (fun i => ∃ k : Nat, k ≤ 5 ∧ i = .int .i64 k ∧ (numb c < 0 ∨ (k : Int) ≤ numb c)) (fun i => 5 - (intOf i).toNat)
  case atStart => exact ⟨0, by omega, rfl, by omega⟩
  case round =>
    obtain ⟨k, hk, rfl, hno⟩ := hrel
    have HNO : Hid (numb c < 0 ∨ (k : Int) ≤ numb c) := hno
    clear hno
    have g0 : (⟨#[65, 67, 71, 84, 78]⟩ : ByteArray)[0]'(by decide) = 65 := rfl
    have g1 : (⟨#[65, 67, 71, 84, 78]⟩ : ByteArray)[1]'(by decide) = 67 := rfl
    have g2 : (⟨#[65, 67, 71, 84, 78]⟩ : ByteArray)[2]'(by decide) = 71 := rfl
    have g3 : (⟨#[65, 67, 71, 84, 78]⟩ : ByteArray)[3]'(by decide) = 84 := rfl
    have g4 : (⟨#[65, 67, 71, 84, 78]⟩ : ByteArray)[4]'(by decide) = 78 := rfl
    rcases (show k = 0 ∨ k = 1 ∨ k = 2 ∨ k = 3 ∨ k = 4 ∨ k = 5 by omega) with rfl | rfl | rfl | rfl | rfl | rfl
    · by_cases hm : numb c = 0
      · have q : ((65 : Int) == (c.toNat : Int)) = true := by rw [l0, decide_eq_true hm]
        have HM : Hid (numb c = 0) := hm
        clear hm l0 l1 l2 l3 l4
        go_wp2
        go_ret
        exact ⟨ret_int HM.out.symm, rfl⟩
      · have q : ((65 : Int) == (c.toNat : Int)) = false := by rw [l0, decide_eq_false hm]
        clear l0 l1 l2 l3 l4
        go_wp2
        go_round
        case rel => exact ⟨1, by omega, rfl, by have := HNO.out; omega⟩
        case measure => simp [intOf]
    · by_cases hm : numb c = 1
      · have q : ((67 : Int) == (c.toNat : Int)) = true := by rw [l1, decide_eq_true hm]
        have HM : Hid (numb c = 1) := hm
        clear hm l0 l1 l2 l3 l4
        go_wp2
        go_ret
        exact ⟨ret_int HM.out.symm, rfl⟩
      · have q : ((67 : Int) == (c.toNat : Int)) = false := by rw [l1, decide_eq_false hm]
        clear l0 l1 l2 l3 l4
        go_wp2
        go_round
        case rel => exact ⟨2, by omega, rfl, by have := HNO.out; omega⟩
        case measure => simp [intOf]
    · by_cases hm : numb c = 2
      · have q : ((71 : Int) == (c.toNat : Int)) = true := by rw [l2, decide_eq_true hm]
        have HM : Hid (numb c = 2) := hm
        clear hm l0 l1 l2 l3 l4
        go_wp2
        go_ret
        exact ⟨ret_int HM.out.symm, rfl⟩
      · have q : ((71 : Int) == (c.toNat : Int)) = false := by rw [l2, decide_eq_false hm]
        clear l0 l1 l2 l3 l4
        go_wp2
        go_round
        case rel => exact ⟨3, by omega, rfl, by have := HNO.out; omega⟩
        case measure => simp [intOf]
    · by_cases hm : numb c = 3
      · have q : ((84 : Int) == (c.toNat : Int)) = true := by rw [l3, decide_eq_true hm]
        have HM : Hid (numb c = 3) := hm
        clear hm l0 l1 l2 l3 l4
        go_wp2
        go_ret
        exact ⟨ret_int HM.out.symm, rfl⟩
      · have q : ((84 : Int) == (c.toNat : Int)) = false := by rw [l3, decide_eq_false hm]
        clear l0 l1 l2 l3 l4
        go_wp2
        go_round
        case rel => exact ⟨4, by omega, rfl, by have := HNO.out; omega⟩
        case measure => simp [intOf]
    · by_cases hm : numb c = 4
      · have q : ((78 : Int) == (c.toNat : Int)) = true := by rw [l4, decide_eq_true hm]
        have HM : Hid (numb c = 4) := hm
        clear hm l0 l1 l2 l3 l4
        go_wp2
        go_ret
        exact ⟨ret_int HM.out.symm, rfl⟩
      · have q : ((78 : Int) == (c.toNat : Int)) = false := by rw [l4, decide_eq_false hm]
        clear l0 l1 l2 l3 l4
        go_wp2
        go_round
        case rel => exact ⟨5, by omega, rfl, by have := HNO.out; omega⟩
        case measure => simp [intOf]
    · clear l0 l1 l2 l3 l4
      go_wp2
      go_ret
      exact ⟨ret_int (by have := HNO.out; omega), rfl⟩

set_option maxRecDepth 100000 in
set_option maxHeartbeats 1000000 in
theorem bases_any (s : ByteArray) (w : World) (hs : s.size ≤ 140737488351232) :
    Calls Try.prog 32 #[.string s] w fun e w' => ((good s ∧ e = .returned (.bool true)) ∨ (¬ good s ∧ e = .returned (.bool false))) ∧ w' = w := by
  go_enter Try.func32, Try.ntmps32
  go_wp2
  go_loop [3] (fun i => ∃ k : Nat, k ≤ s.size ∧ i = .int .i64 k ∧ ∀ j (hj : j < s.size), j < k → 0 ≤ numb s[j]) (fun i => s.size - (intOf i).toNat)
  case atStart => exact ⟨0, Nat.zero_le _, rfl, fun j hj h => absurd h (by omega)⟩
  case round =>
    obtain ⟨k, hk, rfl, hall⟩ := hrel
    have HA : Hid (∀ j (hj : j < s.size), j < k → 0 ≤ numb s[j]) := hall
    clear hall
    by_cases hlt : k < s.size
    · by_cases hn : numb s[k] < 0
      · have HB : Hid (¬ good s) := fun h => absurd (h k hlt) (by omega)
        go_wp2_with (go_at_call 39; refine (rbase_any _ _).mono ?_; rintro e w' ⟨rfl, rfl⟩)
        go_ret
        exact ⟨Or.inr ⟨HB.out, rfl⟩, rfl⟩
      · have hpos : 0 ≤ numb s[k] := by omega
        go_wp2_with (go_at_call 39; refine (rbase_any _ _).mono ?_; rintro e w' ⟨rfl, rfl⟩)
        go_round
        case rel =>
          refine ⟨k + 1, by omega, by go_num, fun j hj h => ?_⟩
          by_cases hjk : j < k
          · exact HA.out j hj hjk
          · obtain rfl : j = k := by omega
            exact hpos
        case measure => simp [intOf]; omega
    · go_wp2
      go_ret
      exact ⟨Or.inl ⟨fun j hj => HA.out j hj (by omega), rfl⟩, rfl⟩

set_option maxRecDepth 100000 in
set_option maxHeartbeats 1000000 in
theorem power_any (n P : Nat) (w : World) (hn : n ≤ 24) (HP : Hid (P = 2 ^ n)) :
    Calls Try.prog 79 #[.int .i64 n] w fun e w' => e = .returned (.int .i64 P) ∧ w' = w := by
  go_enter Try.func79, Try.ntmps79
  go_wp2
  go_loop [3, 4] (fun p i => ∃ k v : Nat, k ≤ n ∧ i = .int .i64 k ∧ p = .int .i64 v ∧ v = 2 ^ k) (fun _ i => n - (intOf i).toNat)
  case atStart => exact ⟨0, 1, Nat.zero_le _, rfl, rfl, rfl⟩
  case round =>
    obtain ⟨k, v, hk, rfl, rfl, hv⟩ := hrel
    have HV : Hid (v = 2 ^ k) := hv
    have hvb : v ≤ 16777216 := by
      rw [hv]
      exact Nat.le_trans (Nat.pow_le_pow_right (by omega) (show k ≤ 24 by omega)) (by decide)
    clear hv
    by_cases hlt : k < n
    · go_wp2
      go_round
      case rel => exact ⟨k + 1, 2 * v, by omega, by go_num, by go_num, by rw [HV.out, Nat.pow_succ]; omega⟩
      case measure => simp [intOf]; omega
    · have HE : Hid (k = n) := by show _ = _; omega
      go_wp2
      go_ret
      exact ⟨ret_int (by rw [HV.out, HP.out, HE.out]), rfl⟩

theorem i64_xor_nat (a b : Nat) (ha : a < 2 ^ 62) (hb : b < 2 ^ 62) : bits .xor .i64 (a : Int) (b : Int) = ((a ^^^ b : Nat) : Int) := by
  have h64 : (2 : Nat) ^ 62 ≤ 2 ^ IntKind.i64.bits := Nat.pow_le_pow_right (by decide) (by decide)
  have ha' : a % 2 ^ IntKind.i64.bits = a := Nat.mod_eq_of_lt (Nat.lt_of_lt_of_le ha h64)
  have hb' : b % 2 ^ IntKind.i64.bits = b := Nat.mod_eq_of_lt (Nat.lt_of_lt_of_le hb h64)
  have hx : a ^^^ b < 2 ^ 62 := Nat.xor_lt_two_pow ha hb
  simp only [bits, BitVec.ofInt_natCast, BitVec.toNat_xor, BitVec.toNat_ofNat, ha', hb']
  rw [IntKind.wrap_i64]
  omega

theorem hash_ref (k c P Q : Nat) (h1 : 1 ≤ k) (h2 : k ≤ 12) (hc : c < 16777216) (hP : P = 2 ^ (2 * k)) (hQ : Q = 2 ^ k) :
    bits BinOp.xor IntKind.i64 (((c * 2654435761 % P : Nat) : Int)) (((c * 2654435761 % P / Q : Nat) : Int)) = (hashN k c : Nat) := by
  have hp := pow_cases k h1 h2
  have hP4 : P = 4 ^ k := by rw [hP, hp.2.2]
  have hlt : c * 2654435761 % P < P := Nat.mod_lt _ (by omega)
  have hdl : c * 2654435761 % P / Q ≤ c * 2654435761 % P := Nat.div_le_self _ _
  rw [i64_xor_nat _ _ (by omega) (by omega)]
  unfold hashN
  rw [← hP4, ← hQ]

set_option maxRecDepth 100000 in
set_option maxHeartbeats 1000000 in
theorem rhash_any (c k : Nat) (w : World) (h1 : 1 ≤ k) (h2 : k ≤ 12) (hc : c < 16777216) :
    Calls Try.prog 57 #[.int .i64 c, .int .i64 k] w fun e w' => e = .returned (.int .i64 (hashN k c : Nat)) ∧ w' = w := by
  obtain ⟨k2, hk2⟩ : ∃ k2 : Nat, (2 : Int) * k = k2 := ⟨2 * k, by omega⟩
  have hk22 : k2 = 2 * k := by omega
  obtain ⟨P, hP⟩ : ∃ P, P = 2 ^ k2 := ⟨_, rfl⟩
  obtain ⟨Q, hQ⟩ : ∃ Q, Q = 2 ^ k := ⟨_, rfl⟩
  have hp := pow_cases k h1 h2
  have hP4 : P = 4 ^ k := by rw [hP, hp.2.2, hk22]
  have hPb : P ≤ 16777216 := by omega
  have hPp : 0 < P := by omega
  have hQp : 0 < Q := by rw [hQ]; exact Nat.pow_pos (by omega)
  have hP0 : ((P : Int) == 0) = false := by rw [beq_eq_false_iff_ne]; omega
  have hQ0 : ((Q : Int) == 0) = false := by rw [beq_eq_false_iff_ne]; omega
  have HP : Hid (P = 2 ^ k2) := hP
  have HQ : Hid (Q = 2 ^ k) := hQ
  have HK : Hid (k2 = 2 * k) := hk22
  clear hP hQ hp hP4 hk22
  go_enter Try.func57, Try.ntmps57
  go_wp2_with fail
  refine (power_any k2 P _ (by omega) HP).mono ?_
  rintro e w' ⟨rfl, rfl⟩
  go_wp2_with fail
  refine (power_any k Q _ (by omega) HQ).mono ?_
  rintro e w'' ⟨rfl, rfl⟩
  go_wp2
  go_ret
  refine ⟨ret_int ?_, rfl⟩
  have e1 : (c : Int) * 2654435761 % P = ((c * 2654435761 % P : Nat) : Int) := by
    rw [Int.natCast_emod, Int.natCast_mul]
    rfl
  have e2 : wrap64 (((c * 2654435761 % P : Nat) : Int).tdiv Q) = ((c * 2654435761 % P / Q : Nat) : Int) := by
    have hdl : c * 2654435761 % P / Q ≤ c * 2654435761 % P := Nat.div_le_self _ _
    have hlt : c * 2654435761 % P < P := Nat.mod_lt _ hPp
    rw [show (((c * 2654435761 % P : Nat) : Int).tdiv Q) = ((c * 2654435761 % P / Q : Nat) : Int) from rfl]
    have hz : ∀ z : Nat, z ≤ 16777216 → wrap64 (z : Int) = z := fun z hz => IntWalk.wrap64_in _ ⟨by omega, by omega⟩
    exact hz _ (Nat.le_trans hdl (by omega))
  rw [e1, e2]
  exact hash_ref k c P Q h1 h2 hc (by rw [HP.out, HK.out]) HQ.out

/-- the numbers of a text -/
theorem nums_get (s : ByteArray) (j : Nat) (h : j < s.size) : (nums s.data.toList).getD j 0 = (numb s[j]).toNat := by
  rw [← nums_getD _ _ (by simpa using h), List.getD_eq_getElem?_getD, List.getElem?_eq_getElem (by simpa using h), Array.getElem_toList]
  rfl

set_option maxRecDepth 100000 in
set_option maxHeartbeats 1000000 in
theorem code_any (s : ByteArray) (w : World) (hs : s.size ≤ 12) (HG : Hid (good s)) :
    Calls Try.prog 56 #[.string s] w fun e w' => (((∀ m ∈ nums s.data.toList, m < 4) ∧ e = .returned (.int .i64 (codeL (nums s.data.toList) : Nat))) ∨ ((¬ ∀ m ∈ nums s.data.toList, m < 4) ∧ e = .returned (.int .i64 (-1)))) ∧ w' = w := by
  have hl : (nums s.data.toList).length = s.size := by simp [nums]
  have HLN : Hid ((nums s.data.toList).length = s.size) := hl
  clear hl
  obtain ⟨a, ha⟩ : ∃ a, a = nums s.data.toList := ⟨_, rfl⟩
  have HAA : Hid (a = nums s.data.toList) := ha
  rw [← ha] at HLN ⊢
  clear ha
  go_enter Try.func56, Try.ntmps56
  go_wp2
  go_loop [3, 4] (fun n i => ∃ k v : Nat, k ≤ s.size ∧ i = .int .i64 k ∧ n = .int .i64 v ∧ v = codeL (a.take k) ∧ ∀ m ∈ a.take k, m < 4) (fun _ i => s.size - (intOf i).toNat)
  case atStart => exact ⟨0, 0, Nat.zero_le _, rfl, rfl, rfl, by simp⟩
  case round =>
    obtain ⟨k, v, hk, rfl, rfl, hv, hall⟩ := hrel
    have HV : Hid (v = codeL (a.take k)) := hv
    have HALL : Hid (∀ m ∈ a.take k, m < 4) := hall
    have hvb : v ≤ 16777216 := by
      have h1 := codeL_lt _ hall
      have h2 : (a.take k).length ≤ 12 := Nat.le_trans (List.length_take_le _ _) (by omega)
      have h3 : (4 : Nat) ^ (a.take k).length ≤ 4 ^ 12 := Nat.pow_le_pow_right (by omega) h2
      omega
    clear hv hall
    by_cases hlt : k < s.size
    · have hb := numb_lt s[k]
      have hg := HG.out k hlt
      have hget : Hid (a.take (k + 1) = a.take k ++ [(numb s[k]).toNat]) := by
        show _ = _
        have hka : k < a.length := by rw [HLN.out]; exact hlt
        rw [List.take_succ_eq_append_getElem hka]
        have := nums_get s k hlt
        rw [← HAA.out, List.getD_eq_getElem?_getD, List.getElem?_eq_getElem hka] at this
        rw [← this]
        rfl
      obtain ⟨m, hm⟩ : ∃ m : Nat, numb s[k] = m := ⟨(numb s[k]).toNat, by omega⟩
      rw [hm, Int.toNat_natCast] at hget
      by_cases h3 : (3 : Int) < m
      · have HB : Hid (¬ ∀ m ∈ a, m < 4) := fun h => by
          have : m ∈ a := List.mem_of_mem_take (i := k + 1) (by rw [hget.out]; simp)
          have := h m this
          omega
        go_wp2_with (go_at_call 39; refine (rbase_any _ _).mono ?_; rintro e w' ⟨rfl, rfl⟩; rw [hm])
        go_ret
        exact ⟨Or.inr ⟨HB.out, rfl⟩, rfl⟩
      · go_wp2_with (go_at_call 39; refine (rbase_any _ _).mono ?_; rintro e w' ⟨rfl, rfl⟩; rw [hm])
        go_round
        case rel =>
          refine ⟨k + 1, 4 * v + m, by omega, by go_num, by go_num, by rw [hget.out, codeL_snoc, ← HV.out], ?_⟩
          intro x hx
          rw [hget.out, List.mem_append] at hx
          rcases hx with hx | hx
          · exact HALL.out x hx
          · simp at hx; omega
        case measure => simp [intOf]; omega
    · have HT : Hid (a.take k = a) := List.take_of_length_le (by rw [HLN.out]; omega)
      go_wp2
      go_ret
      refine ⟨Or.inl ⟨?_, ret_int ?_⟩, rfl⟩
      · have := HALL.out; rw [HT.out] at this; exact this
      · have := HV.out; rw [HT.out] at this; rw [this]

theorem turnL_take (l : List UInt8) (k : Nat) (h : k < l.length) : turnL (l.take (k + 1)) = pbyte (numb l[k]).toNat :: turnL (l.take k) := by
  unfold turnL
  rw [List.take_succ_eq_append_getElem h, List.map_append, List.reverse_append]
  rfl

theorem letter_p (m : Nat) (h : m < 5) : ((⟨#[65, 67, 71, 84, 78]⟩ : ByteArray).extract (if m < 4 then 3 - m else m) ((if m < 4 then 3 - m else m) + 1)).data.toList = [pbyte m] := by
  rcases (show m = 0 ∨ m = 1 ∨ m = 2 ∨ m = 3 ∨ m = 4 by omega) with rfl | rfl | rfl | rfl | rfl <;> decide

theorem turn_step (l : List UInt8) (k : Nat) (h : k < l.length) (r x : ByteArray) (hr : r = ⟨(turnL (l.take k)).toArray⟩) (hx : x.data.toList = [pbyte (numb l[k]).toNat]) : x ++ r = ⟨(turnL (l.take (k + 1))).toArray⟩ := by
  rw [turnL_take l k h, hr]
  apply ByteArray.ext
  apply Array.toList_inj.1
  rw [ByteArray.data_append, Array.toList_append, hx]
  simp

set_option maxRecDepth 100000 in
set_option maxHeartbeats 2000000 in
theorem rturned_any (s : ByteArray) (w : World) (hs : s.size ≤ 140737488351232) :
    Calls Try.prog 15 #[.string s] w fun e w' => ((good s ∧ e = .returned (.tuple #[.string ⟨(turnL s.data.toList).toArray⟩, .int .i64 0])) ∨ (¬ good s ∧ e = .returned (.tuple #[.string ⟨#[]⟩, .int .i64 2]))) ∧ w' = w := by
  go_enter Try.func15, Try.ntmps15
  go_wp2_with fail
  refine (bases_any s w hs).mono ?_
  rintro e w' ⟨h, rfl⟩
  rcases h with ⟨hg, rfl⟩ | ⟨hb, rfl⟩
  · have HG : Hid (good s) := hg
    clear hg
    go_wp2
    go_loop [5, 6] (fun out i => ∃ (k : Nat) (r : ByteArray), k ≤ s.size ∧ i = .int .i64 k ∧ out = .string r ∧ r = ⟨(turnL (s.data.toList.take k)).toArray⟩) (fun _ i => s.size - (intOf i).toNat)
    case atStart => exact ⟨0, _, Nat.zero_le _, rfl, rfl, rfl⟩
    case round =>
      obtain ⟨k, r, hk, rfl, rfl, hr⟩ := hrel
      have HR : Hid (r = ⟨(turnL (s.data.toList.take k)).toArray⟩) := hr
      have hrs : r.size ≤ k := by
        rw [hr, size_mk, turnL_length]
        exact List.length_take_le _ _
      clear hr
      by_cases hlt : k < s.size
      · have hb := numb_lt s[k]
        have hg := HG.out k hlt
        have hgetl : s.data.toList[k]'(by simpa using hlt) = s[k] := by rw [Array.getElem_toList]; rfl
        obtain ⟨m, hm⟩ : ∃ m : Nat, numb s[k] = m := ⟨(numb s[k]).toNat, by omega⟩
        have HX : Hid (∀ x : ByteArray, x.data.toList = [pbyte m] → x ++ r = ⟨(turnL (s.data.toList.take (k + 1))).toArray⟩) := fun x hx =>
          turn_step s.data.toList k (by simpa using hlt) r x HR.out (by rw [hgetl, hm]; exact hx)
        have hm5 : m < 5 := by omega
        have HLP := letter_p m hm5
        clear hgetl
        by_cases h4 : (m : Int) < 4
        · rw [if_pos (by omega)] at HLP
          have HLP' : Hid (((⟨#[65, 67, 71, 84, 78]⟩ : ByteArray).extract (3 - m) (3 - m + 1)).data.toList = [pbyte m]) := HLP
          clear HLP
          obtain ⟨q, hq⟩ : ∃ q : Nat, (3 : Int) - m = q := ⟨3 - m, by omega⟩
          have HQ : Hid (3 - m = q) := by show _ = _; omega
          have hq5 : (q : Int) + 1 ≤ 5 := by omega
          go_wp2_with (go_at_call 39; refine (rbase_any _ _).mono ?_; rintro e w' ⟨rfl, rfl⟩; rw [hm])
          go_round
          case rel => exact ⟨k + 1, _, by omega, by go_num, rfl, HX.out _ (by rw [← HQ.out]; exact HLP'.out)⟩
          case measure => simp [intOf]; omega
        · rw [if_neg (by omega)] at HLP
          have HLP' : Hid (((⟨#[65, 67, 71, 84, 78]⟩ : ByteArray).extract m (m + 1)).data.toList = [pbyte m]) := HLP
          clear HLP
          have hq5 : (m : Int) + 1 ≤ 5 := by omega
          go_wp2_with (go_at_call 39; refine (rbase_any _ _).mono ?_; rintro e w' ⟨rfl, rfl⟩; rw [hm])
          go_round
          case rel => exact ⟨k + 1, _, by omega, by go_num, rfl, HX.out _ HLP'.out⟩
          case measure => simp [intOf]; omega
      · have HT : Hid (s.data.toList.take k = s.data.toList) := List.take_of_length_le (by
          have : s.data.toList.length = s.size := Array.length_toList
          omega)
        go_wp2
        go_ret2
        refine ⟨Or.inl ⟨HG.out, ?_⟩, rfl⟩
        have := HR.out
        rw [HT.out] at this
        rw [this]
        rfl
  · have HB : Hid (¬ good s) := hb
    clear hb
    go_wp2
    go_ret2
    exact ⟨Or.inr ⟨HB.out, rfl⟩, rfl⟩
end Go.Proofs.Ytilcmkiihefkkaa
