import Derived.Test.YtilcmkiihefkkaaDoorProg
import Derived.Test.YtilcmkiihefkkaaDoorOwn
import Derived.WalkKit
import Derived.WalkSpells
import Derived.WalkLawsBesides
import Derived.Lib.Bytealg
import Derived.RegionTactic
import Derived.ChangeAlike
import Derived.BigRegion
set_option linter.unusedVariables false
set_option linter.unusedSimpArgs false
set_option maxRecDepth 100000
namespace Go.Proofs.YtilcmkiihefkkaaDoor
open Go.RowKit

/-- the number of a letter -/
def numb (c : UInt8) : Int := Lib.indexByte [65, 67, 71, 84, 78] c

set_option maxHeartbeats 400000 in
theorem ib56 (s : ByteArray) (c : Int) (w : World) :
    Calls Tryd.prog 32 #[.string s, .int .u8 c] w fun e w' => e = .returned (.int .i64 (Lib.indexByte s.data.toList c.toNat.toUInt8)) ∧ w' = w := by
  go_enter Tryd.func32, Tryd.ntmps32
  go_wp2
  rw [run_callFunc_extern Tryd.func38 (by kernel_rfl) (by kernel_rfl) (by kernel_rfl) (e := Extern.BytealgIndexByte.indexByte) (by kernel_rfl), Lib.run_indexByteString]
  simp only [Result.andThen]
  rw [Oper.upon_value]
  go_wp2
  go_ret
  exact ⟨rfl, rfl⟩

set_option maxHeartbeats 400000 in
theorem numberOf_any (c : UInt8) (w : World) :
    Calls Tryd.prog 21 #[.string ⟨#[65, 67, 71, 84, 78]⟩, .int .u8 c.toNat] w fun e w' => e = .returned (.int .i64 (numb c)) ∧ w' = w := by
  go_enter Tryd.func21, Tryd.ntmps21
  go_wp2_with (first | (go_at_call 32; refine (ib56 _ _ _).mono ?_; rintro e w' ⟨rfl, rfl⟩) | go_in)
  go_ret
  exact ⟨rfl, rfl⟩

theorem numb_cases (c : UInt8) : (c = 65 ∧ numb c = 0) ∨ (c = 67 ∧ numb c = 1) ∨ (c = 71 ∧ numb c = 2) ∨ (c = 84 ∧ numb c = 3) ∨ (c = 78 ∧ numb c = 4) ∨ (numb c = -1 ∧ c ≠ 65 ∧ c ≠ 67 ∧ c ≠ 71 ∧ c ≠ 84 ∧ c ≠ 78) := by
  unfold numb Lib.indexByte Lib.indexByte Lib.indexByte Lib.indexByte Lib.indexByte Lib.indexByte
  by_cases h1 : c = 65
  · subst h1; decide
  by_cases h2 : c = 67
  · subst h2; decide
  by_cases h3 : c = 71
  · subst h3; decide
  by_cases h4 : c = 84
  · subst h4; decide
  by_cases h5 : c = 78
  · subst h5; decide
  simp [h1,h2,h3,h4,h5, Ne.symm h1, Ne.symm h2, Ne.symm h3, Ne.symm h4, Ne.symm h5]

theorem numb_lt (c : UInt8) : -1 ≤ numb c ∧ numb c < 5 := by
  rcases numb_cases c with h | h | h | h | h | h <;> omega

theorem enter_of {f : Nat} {fn : Func} {c : Code} (hf : Tryd.prog.funcs[f]? = some fn) (hname : (fn.name == "runtime.NumGoroutine") = false) (hb : fn.body = some c) (args : Array Value) (w : World) :
    (callFunc f args).run Tryd.prog w = .ok (.enter f args) w := by
  have h1 : fn.name ≠ "runtime.NumGoroutine" := by simpa using hname
  simp [callFunc, hf, h1, hb]

set_option maxHeartbeats 400000 in
theorem eachBase_any (F : Nat) (hF : ∀ args w, (callFunc F args).run Tryd.prog w = .ok (.enter F args) w) (r : Value) (s : ByteArray) (w : World) (hs : s.size ≤ 140737488351232) (I : Nat → World → Prop)
    (hI : ∀ k (hk : k < s.size) w, 0 ≤ numb s[k] → I k w → Calls Tryd.prog F #[r, .int .i64 k, .int .i64 (numb s[k])] w fun e w' => e = .returned (.tuple #[]) ∧ I (k+1) w')
    (h0 : I 0 w) :
    Calls Tryd.prog 13 #[.string s, .func (.func F) #[r] #[]] w fun e w' =>
      ∃ k, k ≤ s.size ∧ I k w' ∧ (∀ j (hj : j < s.size), j < k → 0 ≤ numb s[j]) ∧
        ((k = s.size ∧ e = .returned (.int .i64 0)) ∨ (∃ hk : k < s.size, numb s[k] < 0 ∧ e = .returned (.int .i64 2))) := by
  have HI : Hid (∀ k (hk : k < s.size) w, 0 ≤ numb s[k] → I k w → Calls Tryd.prog F #[r, .int .i64 k, .int .i64 (numb s[k])] w fun e w' => e = .returned (.tuple #[]) ∧ I (k+1) w') := hI
  clear hI
  go_enter Tryd.func13, Tryd.ntmps13
  go_wp2
  go_loopw [9] (fun i wr => ∃ k : Nat, k ≤ s.size ∧ i = .int .i64 k ∧ I k wr ∧ (∀ j (hj : j < s.size), j < k → 0 ≤ numb s[j])) (fun i _ => s.size - (intOf i).toNat)
  case atStart => exact ⟨0, Nat.zero_le _, rfl, h0, fun j hj h => absurd h (by omega)⟩
  case round =>
    obtain ⟨k, hk, rfl, hIk, hall⟩ := hrel
    have HA : Hid (∀ j (hj : j < s.size), j < k → 0 ≤ numb s[j]) := hall
    clear hall
    by_cases hlt : k < s.size
    · have hb := numb_lt s[k]
      by_cases hneg : numb s[k] < 0
      · go_wp2_with (go_at_call 21; refine (numberOf_any _ _).mono ?_; rintro e w' ⟨rfl, rfl⟩)
        go_ret
        exact ⟨k, hk, hIk, HA.out, Or.inr ⟨hlt, hneg, rfl⟩⟩
      · have hpos : 0 ≤ numb s[k] := by omega
        go_wp2_with (first | (go_at_call 21; refine (numberOf_any _ _).mono ?_; rintro e w' ⟨rfl, rfl⟩))
        refine (HI.out k hlt _ hpos hIk).mono ?_
        rintro e w' ⟨rfl, hI'⟩
        go_wp2
        go_roundw
        case rel =>
          refine ⟨k + 1, by omega, by go_num, hI', fun j hj h => ?_⟩
          by_cases hjk : j < k
          · exact HA.out j hj hjk
          · obtain rfl : j = k := by omega
            exact hpos
        case measure => simp [intOf]; omega
    · go_wp2
      go_ret
      exact ⟨k, hk, hIk, HA.out, Or.inl ⟨by omega, rfl⟩⟩

/-- is every letter of a text a base? -/
def good (s : ByteArray) : Prop := ∀ j (hj : j < s.size), 0 ≤ numb s[j]

theorem eqs (c : UInt8) (n : Nat) (hn : n < 256) : (((c.toNat : Int) == (n : Int)) = true ↔ c = UInt8.ofNat n) := by
  rw [beq_iff_eq]
  constructor
  · intro h
    apply UInt8.toNat_inj.1
    rw [UInt8.toNat_ofNat']
    omega
  · intro h
    subst h
    rw [UInt8.toNat_ofNat']
    omega

theorem ret_int {k : IntKind} {a b : Int} (h : a = b) : Ending.returned (.int k a) = .returned (.int k b) := by rw [h]

theorem letter_eq (c : UInt8) : ((65 : Int) == (c.toNat : Int)) = decide (numb c = 0) ∧ ((67 : Int) == (c.toNat : Int)) = decide (numb c = 1) ∧ ((71 : Int) == (c.toNat : Int)) = decide (numb c = 2) ∧ ((84 : Int) == (c.toNat : Int)) = decide (numb c = 3) ∧ ((78 : Int) == (c.toNat : Int)) = decide (numb c = 4) := by
  rcases numb_cases c with ⟨rfl, h⟩ | ⟨rfl, h⟩ | ⟨rfl, h⟩ | ⟨rfl, h⟩ | ⟨rfl, h⟩ | ⟨h, h1, h2, h3, h4, h5⟩
  · rw [h]; decide
  · rw [h]; decide
  · rw [h]; decide
  · rw [h]; decide
  · rw [h]; decide
  · rw [h]
    have q : ∀ n : Nat, n < 256 → c ≠ UInt8.ofNat n → ((n : Int) == (c.toNat : Int)) = false := by
      intro n hn hne
      rw [Bool.eq_false_iff]
      intro he
      apply hne
      apply (eqs c n hn).1
      rw [beq_iff_eq] at he ⊢
      exact he.symm
    exact ⟨q 65 (by omega) h1, q 67 (by omega) h2, q 71 (by omega) h3, q 84 (by omega) h4, q 78 (by omega) h5⟩

set_option maxRecDepth 100000 in
set_option maxHeartbeats 1000000 in
theorem rbase_any (c : UInt8) (w : World) :
    Calls Tryd.prog 27 #[.int .u8 c.toNat] w fun e w' => e = .returned (.int .i64 (numb c)) ∧ w' = w := by
  obtain ⟨l0, l1, l2, l3, l4⟩ := letter_eq c
  have hb := numb_lt c
  go_enter Tryd.func27, Tryd.ntmps27
  go_wp2
  go_loop [4] (fun i => ∃ k : Nat, k ≤ 5 ∧ i = .int .i64 k ∧ (numb c < 0 ∨ (k : Int) ≤ numb c)) (fun i => 5 - (intOf i).toNat)
  case atStart => exact ⟨0, by omega, rfl, by omega⟩
  case round =>
    obtain ⟨k, hk, rfl, hno⟩ := hrel
    have HNO : Hid (numb c < 0 ∨ (k : Int) ≤ numb c) := hno
    clear hno
    have g0 : (⟨#[65, 67, 71, 84, 78]⟩ : ByteArray)[0]'(by decide) = 65 := rfl
    have g1 : (⟨#[65, 67, 71, 84, 78]⟩ : ByteArray)[1]'(by decide) = 67 := rfl
    have g2 : (⟨#[65, 67, 71, 84, 78]⟩ : ByteArray)[2]'(by decide) = 71 := rfl
    have g3 : (⟨#[65, 67, 71, 84, 78]⟩ : ByteArray)[3]'(by decide) = 84 := rfl
    have g4 : (⟨#[65, 67, 71, 84, 78]⟩ : ByteArray)[4]'(by decide) = 78 := rfl
    rcases (show k = 0 ∨ k = 1 ∨ k = 2 ∨ k = 3 ∨ k = 4 ∨ k = 5 by omega) with rfl | rfl | rfl | rfl | rfl | rfl
    · by_cases hm : numb c = 0
      · have q : ((65 : Int) == (c.toNat : Int)) = true := by rw [l0, decide_eq_true hm]
        have HM : Hid (numb c = 0) := hm
        clear hm l0 l1 l2 l3 l4
        go_wp2
        go_ret
        exact ⟨ret_int HM.out.symm, rfl⟩
      · have q : ((65 : Int) == (c.toNat : Int)) = false := by rw [l0, decide_eq_false hm]
        clear l0 l1 l2 l3 l4
        go_wp2
        go_round
        case rel => exact ⟨1, by omega, rfl, by have := HNO.out; omega⟩
        case measure => simp [intOf]
    · by_cases hm : numb c = 1
      · have q : ((67 : Int) == (c.toNat : Int)) = true := by rw [l1, decide_eq_true hm]
        have HM : Hid (numb c = 1) := hm
        clear hm l0 l1 l2 l3 l4
        go_wp2
        go_ret
        exact ⟨ret_int HM.out.symm, rfl⟩
      · have q : ((67 : Int) == (c.toNat : Int)) = false := by rw [l1, decide_eq_false hm]
        clear l0 l1 l2 l3 l4
        go_wp2
        go_round
        case rel => exact ⟨2, by omega, rfl, by have := HNO.out; omega⟩
        case measure => simp [intOf]
    · by_cases hm : numb c = 2
      · have q : ((71 : Int) == (c.toNat : Int)) = true := by rw [l2, decide_eq_true hm]
        have HM : Hid (numb c = 2) := hm
        clear hm l0 l1 l2 l3 l4
        go_wp2
        go_ret
        exact ⟨ret_int HM.out.symm, rfl⟩
      · have q : ((71 : Int) == (c.toNat : Int)) = false := by rw [l2, decide_eq_false hm]
        clear l0 l1 l2 l3 l4
        go_wp2
        go_round
        case rel => exact ⟨3, by omega, rfl, by have := HNO.out; omega⟩
        case measure => simp [intOf]
    · by_cases hm : numb c = 3
      · have q : ((84 : Int) == (c.toNat : Int)) = true := by rw [l3, decide_eq_true hm]
        have HM : Hid (numb c = 3) := hm
        clear hm l0 l1 l2 l3 l4
        go_wp2
        go_ret
        exact ⟨ret_int HM.out.symm, rfl⟩
      · have q : ((84 : Int) == (c.toNat : Int)) = false := by rw [l3, decide_eq_false hm]
        clear l0 l1 l2 l3 l4
        go_wp2
        go_round
        case rel => exact ⟨4, by omega, rfl, by have := HNO.out; omega⟩
        case measure => simp [intOf]
    · by_cases hm : numb c = 4
      · have q : ((78 : Int) == (c.toNat : Int)) = true := by rw [l4, decide_eq_true hm]
        have HM : Hid (numb c = 4) := hm
        clear hm l0 l1 l2 l3 l4
        go_wp2
        go_ret
        exact ⟨ret_int HM.out.symm, rfl⟩
      · have q : ((78 : Int) == (c.toNat : Int)) = false := by rw [l4, decide_eq_false hm]
        clear l0 l1 l2 l3 l4
        go_wp2
        go_round
        case rel => exact ⟨5, by omega, rfl, by have := HNO.out; omega⟩
        case measure => simp [intOf]
    · clear l0 l1 l2 l3 l4
      go_wp2
      go_ret
      exact ⟨ret_int (by have := HNO.out; omega), rfl⟩

set_option maxRecDepth 100000 in
set_option maxHeartbeats 1000000 in
theorem bases_any (s : ByteArray) (w : World) (hs : s.size ≤ 140737488351232) :
    Calls Tryd.prog 18 #[.string s] w fun e w' => ((good s ∧ e = .returned (.bool true)) ∨ (¬ good s ∧ e = .returned (.bool false))) ∧ w' = w := by
  go_enter Tryd.func18, Tryd.ntmps18
  go_wp2
  go_loop [3] (fun i => ∃ k : Nat, k ≤ s.size ∧ i = .int .i64 k ∧ ∀ j (hj : j < s.size), j < k → 0 ≤ numb s[j]) (fun i => s.size - (intOf i).toNat)
  case atStart => exact ⟨0, Nat.zero_le _, rfl, fun j hj h => absurd h (by omega)⟩
  case round =>
    obtain ⟨k, hk, rfl, hall⟩ := hrel
    have HA : Hid (∀ j (hj : j < s.size), j < k → 0 ≤ numb s[j]) := hall
    clear hall
    by_cases hlt : k < s.size
    · by_cases hn : numb s[k] < 0
      · have HB : Hid (¬ good s) := fun h => absurd (h k hlt) (by omega)
        go_wp2_with (go_at_call 27; refine (rbase_any _ _).mono ?_; rintro e w' ⟨rfl, rfl⟩)
        go_ret
        exact ⟨Or.inr ⟨HB.out, rfl⟩, rfl⟩
      · have hpos : 0 ≤ numb s[k] := by omega
        go_wp2_with (go_at_call 27; refine (rbase_any _ _).mono ?_; rintro e w' ⟨rfl, rfl⟩)
        go_round
        case rel =>
          refine ⟨k + 1, by omega, by go_num, fun j hj h => ?_⟩
          by_cases hjk : j < k
          · exact HA.out j hj hjk
          · obtain rfl : j = k := by omega
            exact hpos
        case measure => simp [intOf]; omega
    · go_wp2
      go_ret
      exact ⟨Or.inl ⟨fun j hj => HA.out j hj (by omega), rfl⟩, rfl⟩
end Go.Proofs.YtilcmkiihefkkaaDoor
