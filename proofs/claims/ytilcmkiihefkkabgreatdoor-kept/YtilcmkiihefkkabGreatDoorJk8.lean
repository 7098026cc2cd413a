import Derived.BigQuiet
import Derived.BigRegion
import Derived.ChangeAlike
import Derived.Deep.QuietTactic
import Derived.Lib.Bytealg
import Derived.RegionTactic
import Derived.Test.YtilcmkiihefkkabGreatDoorJk4
import Derived.Test.YtilcmkiihefkkabGreatDoorProg
import Derived.WalkKit
import Derived.WalkLawsBesides
import Derived.WalkSpells
section
set_option linter.unusedVariables false
set_option linter.unusedSimpArgs false
set_option maxRecDepth 100000
namespace Go.Proofs.YtilcmkiihefkkabGreatDoor
open Go.RowKit
/-- the number of a letter -/
def numb (c : UInt8) : Int := Lib.indexByte [65, 67, 71, 84, 78] c
set_option maxHeartbeats 400000 in
theorem ib56 (s : ByteArray) (c : Int) (w : World) :
    Calls Tryz.prog 106 #[.string s, .int .u8 c] w fun e w' => e = .returned (.int .i64 (Lib.indexByte s.data.toList c.toNat.toUInt8)) ∧ w' = w := by
  go_enter Tryz.func106, Tryz.ntmps106
  go_wp2
  rw [run_callFunc_extern Tryz.func145 (by kernel_rfl) (by kernel_rfl) (by kernel_rfl) (e := Extern.BytealgIndexByte.indexByte) (by kernel_rfl), Lib.run_indexByteString]
  simp only [Result.andThen]
  rw [Oper.upon_value]
  go_wp2
  go_ret
  exact ⟨rfl, rfl⟩
set_option maxHeartbeats 400000 in
theorem numberOf_any (c : UInt8) (w : World) :
    Calls Tryz.prog 69 #[.string ⟨#[65, 67, 71, 84, 78]⟩, .int .u8 c.toNat] w fun e w' => e = .returned (.int .i64 (numb c)) ∧ w' = w := by
  go_enter Tryz.func69, Tryz.ntmps69
  go_wp2_with (first | (go_at_call 106; refine (ib56 _ _ _).mono ?_; rintro e w' ⟨rfl, rfl⟩) | go_in)
  go_ret
  exact ⟨rfl, rfl⟩
theorem numb_cases (c : UInt8) : (c = 65 ∧ numb c = 0) ∨ (c = 67 ∧ numb c = 1) ∨ (c = 71 ∧ numb c = 2) ∨ (c = 84 ∧ numb c = 3) ∨ (c = 78 ∧ numb c = 4) ∨ (numb c = -1 ∧ c ≠ 65 ∧ c ≠ 67 ∧ c ≠ 71 ∧ c ≠ 84 ∧ c ≠ 78) := by
  unfold numb Lib.indexByte Lib.indexByte Lib.indexByte Lib.indexByte Lib.indexByte Lib.indexByte
  by_cases h1 : c = 65
  · subst h1; decide
  by_cases h2 : c = 67
  · subst h2; decide
  by_cases h3 : c = 71
  · subst h3; decide
  by_cases h4 : c = 84
  · subst h4; decide
  by_cases h5 : c = 78
  · subst h5; decide
  simp [h1,h2,h3,h4,h5, Ne.symm h1, Ne.symm h2, Ne.symm h3, Ne.symm h4, Ne.symm h5]
theorem numb_lt (c : UInt8) : -1 ≤ numb c ∧ numb c < 5 := by
  rcases numb_cases c with h | h | h | h | h | h <;> omega
theorem enter_of {f : Nat} {fn : Func} {c : Code} (hf : Tryz.prog.funcs[f]? = some fn) (hname : (fn.name == "runtime.NumGoroutine") = false) (hb : fn.body = some c) (args : Array Value) (w : World) :
    (callFunc f args).run Tryz.prog w = .ok (.enter f args) w := by
  have h1 : fn.name ≠ "runtime.NumGoroutine" := by simpa using hname
  simp [callFunc, hf, h1, hb]
set_option maxHeartbeats 400000 in
theorem eachBase_any (F : Nat) (hF : ∀ args w, (callFunc F args).run Tryz.prog w = .ok (.enter F args) w) (r : Value) (s : ByteArray) (w : World) (hs : s.size ≤ 140737488351232) (I : Nat → World → Prop)
    (hI : ∀ k (hk : k < s.size) w, 0 ≤ numb s[k] → I k w → Calls Tryz.prog F #[r, .int .i64 k, .int .i64 (numb s[k])] w fun e w' => e = .returned (.tuple #[]) ∧ I (k+1) w')
    (h0 : I 0 w) :
    Calls Tryz.prog 50 #[.string s, .func (.func F) #[r] #[]] w fun e w' =>
      ∃ k, k ≤ s.size ∧ I k w' ∧ (∀ j (hj : j < s.size), j < k → 0 ≤ numb s[j]) ∧
        ((k = s.size ∧ e = .returned (.int .i64 0)) ∨ (∃ hk : k < s.size, numb s[k] < 0 ∧ e = .returned (.int .i64 2))) := by
  have HI : Hid (∀ k (hk : k < s.size) w, 0 ≤ numb s[k] → I k w → Calls Tryz.prog F #[r, .int .i64 k, .int .i64 (numb s[k])] w fun e w' => e = .returned (.tuple #[]) ∧ I (k+1) w') := hI
  clear hI
  go_enter Tryz.func50, Tryz.ntmps50
  go_wp2
  go_loopw [9] (fun i wr => ∃ k : Nat, k ≤ s.size ∧ i = .int .i64 k ∧ I k wr ∧ (∀ j (hj : j < s.size), j < k → 0 ≤ numb s[j])) (fun i _ => s.size - (RowKit.intOf i).toNat)
  case atStart => exact ⟨0, Nat.zero_le _, rfl, h0, fun j hj h => absurd h (by omega)⟩
  case round =>
    obtain ⟨k, hk, rfl, hIk, hall⟩ := hrel
    have HA : Hid (∀ j (hj : j < s.size), j < k → 0 ≤ numb s[j]) := hall
    clear hall
    by_cases hlt : k < s.size
    · have hb := numb_lt s[k]
      by_cases hneg : numb s[k] < 0
      · go_wp2_with (go_at_call 69; refine (numberOf_any _ _).mono ?_; rintro e w' ⟨rfl, rfl⟩)
        go_ret
        exact ⟨k, hk, hIk, HA.out, Or.inr ⟨hlt, hneg, rfl⟩⟩
      · have hpos : 0 ≤ numb s[k] := by omega
        go_wp2_with (first | (go_at_call 69; refine (numberOf_any _ _).mono ?_; rintro e w' ⟨rfl, rfl⟩))
        refine (HI.out k hlt _ hpos hIk).mono ?_
        rintro e w' ⟨rfl, hI'⟩
        go_wp2
        go_roundw
        case rel =>
          refine ⟨k + 1, by omega, by go_num, hI', fun j hj h => ?_⟩
          by_cases hjk : j < k
          · exact HA.out j hj hjk
          · obtain rfl : j = k := by omega
            exact hpos
        case measure => simp [RowKit.intOf]; omega
    · go_wp2
      go_ret
      exact ⟨k, hk, hIk, HA.out, Or.inl ⟨by omega, rfl⟩⟩
/-- is every letter of a text a base? -/
def good (s : ByteArray) : Prop := ∀ j (hj : j < s.size), 0 ≤ numb s[j]
theorem eqs (c : UInt8) (n : Nat) (hn : n < 256) : (((c.toNat : Int) == (n : Int)) = true ↔ c = UInt8.ofNat n) := by
  rw [beq_iff_eq]
  constructor
  · intro h
    apply UInt8.toNat_inj.1
    rw [UInt8.toNat_ofNat']
    omega
  · intro h
    subst h
    rw [UInt8.toNat_ofNat']
    omega
theorem ret_int {k : IntKind} {a b : Int} (h : a = b) : Ending.returned (.int k a) = .returned (.int k b) := by rw [h]
end Go.Proofs.YtilcmkiihefkkabGreatDoor
end
section
set_option linter.unusedVariables false
set_option linter.unusedSimpArgs false
set_option maxRecDepth 100000
namespace Go.Proofs.YtilcmkiihefkkabGreatDoor.Mn
open Go.RowKit
/-- the number of a letter -/
def numb (c : UInt8) : Int := Lib.indexByte [65, 67, 71, 84, 78] c
set_option maxHeartbeats 400000 in
theorem ib56 (s : ByteArray) (c : Int) (w : World) :
    Calls Tryz.prog 106 #[.string s, .int .u8 c] w fun e w' => e = .returned (.int .i64 (Lib.indexByte s.data.toList c.toNat.toUInt8)) ∧ w' = w := by
  go_enter Tryz.func106, Tryz.ntmps106
  go_wp2
  rw [run_callFunc_extern Tryz.func145 (by kernel_rfl) (by kernel_rfl) (by kernel_rfl) (e := Extern.BytealgIndexByte.indexByte) (by kernel_rfl), Lib.run_indexByteString]
  simp only [Result.andThen]
  rw [Oper.upon_value]
  go_wp2
  go_ret
  exact ⟨rfl, rfl⟩
set_option maxHeartbeats 400000 in
theorem numberOf_any (c : UInt8) (w : World) :
    Calls Tryz.prog 69 #[.string ⟨#[65, 67, 71, 84, 78]⟩, .int .u8 c.toNat] w fun e w' => e = .returned (.int .i64 (numb c)) ∧ w' = w := by
  go_enter Tryz.func69, Tryz.ntmps69
  go_wp2_with (first | (go_at_call 106; refine (ib56 _ _ _).mono ?_; rintro e w' ⟨rfl, rfl⟩) | go_in)
  go_ret
  exact ⟨rfl, rfl⟩
theorem numb_cases (c : UInt8) : (c = 65 ∧ numb c = 0) ∨ (c = 67 ∧ numb c = 1) ∨ (c = 71 ∧ numb c = 2) ∨ (c = 84 ∧ numb c = 3) ∨ (c = 78 ∧ numb c = 4) ∨ (numb c = -1 ∧ c ≠ 65 ∧ c ≠ 67 ∧ c ≠ 71 ∧ c ≠ 84 ∧ c ≠ 78) := by
  unfold numb Lib.indexByte Lib.indexByte Lib.indexByte Lib.indexByte Lib.indexByte Lib.indexByte
  by_cases h1 : c = 65
  · subst h1; decide
  by_cases h2 : c = 67
  · subst h2; decide
  by_cases h3 : c = 71
  · subst h3; decide
  by_cases h4 : c = 84
  · subst h4; decide
  by_cases h5 : c = 78
  · subst h5; decide
  simp [h1,h2,h3,h4,h5, Ne.symm h1, Ne.symm h2, Ne.symm h3, Ne.symm h4, Ne.symm h5]
theorem numb_lt (c : UInt8) : -1 ≤ numb c ∧ numb c < 5 := by
  rcases numb_cases c with h | h | h | h | h | h <;> omega
theorem enter_of {f : Nat} {fn : Func} {c : Code} (hf : Tryz.prog.funcs[f]? = some fn) (hname : (fn.name == "runtime.NumGoroutine") = false) (hb : fn.body = some c) (args : Array Value) (w : World) :
    (callFunc f args).run Tryz.prog w = .ok (.enter f args) w := by
  have h1 : fn.name ≠ "runtime.NumGoroutine" := by simpa using hname
  simp [callFunc, hf, h1, hb]
set_option maxHeartbeats 400000 in
theorem eachBase_any (F : Nat) (hF : ∀ args w, (callFunc F args).run Tryz.prog w = .ok (.enter F args) w) (r : Value) (s : ByteArray) (w : World) (hs : s.size ≤ 140737488351232) (I : Nat → World → Prop)
    (hI : ∀ k (hk : k < s.size) w, 0 ≤ numb s[k] → I k w → Calls Tryz.prog F #[r, .int .i64 k, .int .i64 (numb s[k])] w fun e w' => e = .returned (.tuple #[]) ∧ I (k+1) w')
    (h0 : I 0 w) :
    Calls Tryz.prog 50 #[.string s, .func (.func F) #[r] #[]] w fun e w' =>
      ∃ k, k ≤ s.size ∧ I k w' ∧ (∀ j (hj : j < s.size), j < k → 0 ≤ numb s[j]) ∧
        ((k = s.size ∧ e = .returned (.int .i64 0)) ∨ (∃ hk : k < s.size, numb s[k] < 0 ∧ e = .returned (.int .i64 2))) := by
  have HI : Hid (∀ k (hk : k < s.size) w, 0 ≤ numb s[k] → I k w → Calls Tryz.prog F #[r, .int .i64 k, .int .i64 (numb s[k])] w fun e w' => e = .returned (.tuple #[]) ∧ I (k+1) w') := hI
  clear hI
  go_enter Tryz.func50, Tryz.ntmps50
  go_wp2
  go_loopw [9] (fun i wr => ∃ k : Nat, k ≤ s.size ∧ i = .int .i64 k ∧ I k wr ∧ (∀ j (hj : j < s.size), j < k → 0 ≤ numb s[j])) (fun i _ => s.size - (RowKit.intOf i).toNat)
  case atStart => exact ⟨0, Nat.zero_le _, rfl, h0, fun j hj h => absurd h (by omega)⟩
  case round =>
    obtain ⟨k, hk, rfl, hIk, hall⟩ := hrel
    have HA : Hid (∀ j (hj : j < s.size), j < k → 0 ≤ numb s[j]) := hall
    clear hall
    by_cases hlt : k < s.size
    · have hb := numb_lt s[k]
      by_cases hneg : numb s[k] < 0
      · go_wp2_with (go_at_call 69; refine (numberOf_any _ _).mono ?_; rintro e w' ⟨rfl, rfl⟩)
        go_ret
        exact ⟨k, hk, hIk, HA.out, Or.inr ⟨hlt, hneg, rfl⟩⟩
      · have hpos : 0 ≤ numb s[k] := by omega
        go_wp2_with (first | (go_at_call 69; refine (numberOf_any _ _).mono ?_; rintro e w' ⟨rfl, rfl⟩))
        refine (HI.out k hlt _ hpos hIk).mono ?_
        rintro e w' ⟨rfl, hI'⟩
        go_wp2
        go_roundw
        case rel =>
          refine ⟨k + 1, by omega, by go_num, hI', fun j hj h => ?_⟩
          by_cases hjk : j < k
          · exact HA.out j hj hjk
          · obtain rfl : j = k := by omega
            exact hpos
        case measure => simp [RowKit.intOf]; omega
    · go_wp2
      go_ret
      exact ⟨k, hk, hIk, HA.out, Or.inl ⟨by omega, rfl⟩⟩
/-- the partner of the letter of a number -/
def pbyte (m : Nat) : UInt8 := ([84, 71, 67, 65, 78] : List UInt8).getD m 0
theorem pbyte_get (m : Nat) (h : m < (⟨#[84, 71, 67, 65, 78]⟩ : ByteArray).size) : (⟨#[84, 71, 67, 65, 78]⟩ : ByteArray)[m] = pbyte m := by
  have : m < 5 := h
  rcases (show m = 0 ∨ m = 1 ∨ m = 2 ∨ m = 3 ∨ m = 4 by omega) with rfl | rfl | rfl | rfl | rfl <;> rfl
set_option maxHeartbeats 400000 in
theorem tbase_any (B g n p m : Nat) (cur : Array Value) (w : World) (hp : p < n) (hn : n ≤ 140737488351232) (hm : m < 5)
    (hB : w.heap[B]? = some (.cells #[.slice (some ⟨g, 0, none⟩) n n] 183 (0, 0))) (hg : w.heap[g]? = some (.cells cur 5 (0, 0))) (hc : cur.size = n) :
    Calls Tryz.prog 94 #[.pointer (some ⟨B, 0, none⟩), .int .i64 p, .int .i64 m] w fun e w' => e = .returned (.tuple #[]) ∧ Upd w w' g (.cells (cur.setIfInBounds (n - 1 - p) (.int .u8 ((pbyte m).toNat : Int))) 5 (0, 0)) := by
  have h1 : ((n : Int) - 1 - p).toNat = n - 1 - p := by omega
  have h3 : 0 ≤ (n : Int) - 1 - p := by omega
  have h4 : (n : Int) - 1 - p < n := by omega
  have hm2 : (m : Int) < 5 := by omega
  have hp2 : ((n - 1 - p : Nat) : Int) < n := by omega
  have cB := cell_of_one hB
  obtain ⟨x, hx⟩ : ∃ x, cur[n - 1 - p]? = some x := ⟨cur[n - 1 - p]'(by omega), by simp⟩
  have cg : w.cell? ⟨g, n - 1 - p, none⟩ = some x := by rw [cell_of_row w g _ cur 5 (0, 0) hg]; exact hx
  have fg : w.frozen? ⟨g, n - 1 - p, none⟩ = false := frozen_of_row w g _ cur 5 hg
  have HU : Hid (∀ v, Upd w (w.setCell ⟨g, n - 1 - p, none⟩ v) g (.cells (cur.setIfInBounds (n - 1 - p) v) 5 (0, 0))) := fun v => Upd.of_setCell v hg
  clear hx hB hg hc
  go_enter Tryz.func94, Tryz.ntmps94
  go_region
  all_goals go_end0
  all_goals refine ⟨rfl, ?_⟩
  all_goals (have := (HU.out (.int .u8 ((pbyte m).toNat : Int))).drew; rw [← pbyte_get m hm] at this ⊢; exact this)
/-- is every letter of a text a base? -/
def good (s : ByteArray) : Prop := ∀ j (hj : j < s.size), 0 ≤ numb s[j]
/-- a text of bases turned -/
def turnL (l : List UInt8) : List UInt8 := (l.map fun c => pbyte (numb c).toNat).reverse
theorem turnL_length (l : List UInt8) : (turnL l).length = l.length := by simp [turnL]
theorem Tryz.info5 : (Tryz.prog.info? 5).map (fun i => (i.zero, i.size, i.bytes)) = some (some (.int .u8 0), 1, 1) := by kernel_rfl
theorem enter30 (args : Array Value) (w : World) : (callFunc 94 args).run Tryz.prog w = .ok (.enter 94 args) w := by
  obtain ⟨c, hc⟩ : ∃ c, Tryz.f94.body = some c := ⟨_, rfl⟩
  exact enter_of Tryz.func94 (by kernel_rfl) hc args w
def TI (w : World) (s : ByteArray) (B g : Nat) (k : Nat) (wr : World) : Prop :=
  ∃ cur, wr.heap[B]? = some (.cells #[.slice (some ⟨g, 0, none⟩) s.size s.size] 183 (0, 0)) ∧ wr.heap[g]? = some (.cells cur 5 (0, 0)) ∧ cur.size = s.size ∧
    (∀ j (hj : j < s.size), j < k → cur[s.size - 1 - j]? = some (.int .u8 ((pbyte (numb s[j]).toNat).toNat : Int))) ∧ Below w.heap.size w wr
theorem TI_step (w : World) (s : ByteArray) (B g : Nat) (hgB : g ≠ B) (hw : w.heap.size ≤ g) (hs : s.size ≤ 140737488351232) (k : Nat) (hk : k < s.size) (wr : World) (hn : 0 ≤ numb s[k]) (h : TI w s B g k wr) :
    Calls Tryz.prog 94 #[.pointer (some ⟨B, 0, none⟩), .int .i64 k, .int .i64 (numb s[k])] wr fun e w' => e = .returned (.tuple #[]) ∧ TI w s B g (k + 1) w' := by
  obtain ⟨cur, hB, hg, hc, hall, hb⟩ := h
  have hl := numb_lt s[k]
  obtain ⟨m, hm⟩ : ∃ m : Nat, numb s[k] = m := ⟨(numb s[k]).toNat, by omega⟩
  rw [hm]
  refine (tbase_any B g s.size k m cur wr hk hs (by omega) hB hg hc).mono ?_
  rintro e w' ⟨rfl, hu⟩
  refine ⟨rfl, _, (hu.other B (Ne.symm hgB)).trans hB, hu.here, by simpa using hc, ?_, hb.trans (hu.below hw)⟩
  intro j hj hjk
  by_cases h : j = k
  · subst h
    rw [Array.getElem?_setIfInBounds_self_of_lt (by omega), hm]
    simp
  · rw [Array.getElem?_setIfInBounds_ne (by omega)]
    exact hall j hj (by omega)
set_option maxRecDepth 100000 in
set_option maxHeartbeats 400000 in
theorem turned_any (s : ByteArray) (w : World) (hs : s.size ≤ 140737488351232) :
    Calls Tryz.prog 61 #[.string s] w fun e w' => ((good s ∧ e = .returned (.tuple #[.string ⟨(turnL s.data.toList).toArray⟩, .int .i64 0])) ∨ (¬ good s ∧ e = .returned (.tuple #[.string ⟨#[]⟩, .int .i64 2]))) ∧ Below w.heap.size w w' := by
  obtain ⟨i0, hi, hz0, hz1, hz2⟩ := info_parts Tryz.info5
  go_enter Tryz.func61, Tryz.ntmps61
  go_wp2_with (at_make; refine wpList_make_full _ rfl _ _ 33 rfl w.heap.size 5 i0 (.int .u8 0) 1 Tryz.underlying33 hi hz0 hz1 .i64 .i64 s.size s.size s.size rfl rfl rfl rfl (by rw [hz2]; omega) (by unfold maxLen; omega) (by simp) ?_; intro w1 hown hgrow)
  have hlt : w.heap.size < w1.heap.size := (hown.lt _ rfl).2
  obtain ⟨cur, hg, hc⟩ : ∃ cur, w1.heap[w.heap.size]? = some (.cells cur 5 (0, 0)) ∧ cur.size = s.size := by
    rcases hown.2 with ⟨h, _⟩ | ⟨g, cap, cur, h, _, hg, _, _, hc, _⟩
    · simp at h
    · simp only [Value.slice.injEq, Option.some.injEq, Addr.mk.injEq, and_true, true_and] at h
      obtain ⟨rfl, rfl⟩ := h
      exact ⟨cur, hg, by simpa using hc⟩
  refine (eachBase_any 94 enter30 _ s _ hs (TI w s w1.heap.size w.heap.size) (fun k hk wr hn h => TI_step w s _ _ (by omega) (Nat.le_refl _) hs k hk wr hn h) ?_).mono ?_
  · refine ⟨cur, by simpa using heap_alloc_new w1 _, ?_, hc, fun j hj h => absurd h (by omega), ?_⟩
    · rw [Below.heap_alloc _ _ _ hlt]; exact hg
    · exact (((Below.refl _ w).grown hgrow (Nat.le_refl _) (fun k hk => by cases hk))).alloc (by omega) _
  · rintro e w' ⟨k, hk, ⟨cur', hB, hg', hc', hall, hb⟩, hgd, hend⟩
    have cB := cell_of_one hB
    rcases hend with ⟨rfl, rfl⟩ | ⟨hk', hneg, rfl⟩
    · have hgood : good s := fun j hj => hgd j hj hj
      have hcv : (convert 33 9 (.slice (some ⟨w.heap.size, 0, none⟩) s.size s.size)).run Tryz.prog w' = .ok (.string ⟨(turnL s.data.toList).toArray⟩) w' := by
        have := run_convert_bytes_back (P := Tryz.prog) w' 33 9 5 ⟨w.heap.size, 0, none⟩ s.size (turnL s.data.toList) Tryz.underlying33 Tryz.underlying5 Tryz.underlying9 (by
          intro j hj
          have hj' : j < s.size := by simpa [turnL_length] using hj
          have := hall (s.size - 1 - j) (by omega) (by omega)
          rw [Addr.add_lit, cell_of_row w' _ _ cur' 5 (0, 0) hg', Nat.zero_add]
          rw [show s.size - 1 - (s.size - 1 - j) = j by omega] at this
          rw [this]
          simp [turnL]
          rfl)
        rw [turnL_length] at this
        simpa using this
      have HG : Hid (good s) := hgood
      clear hgood hall hgd hg' hc' hg hc hown hgrow
      go_wp2
      go_ret2
      exact ⟨Or.inl ⟨HG.out, rfl⟩, hb⟩
    · have hbad : ¬ good s := fun h => absurd (h k hk') (by omega)
      have HG : Hid (¬ good s) := hbad
      clear hall hgd hg' hc' hg hc hown hgrow hbad hneg
      go_wp2
      go_ret2
      exact ⟨Or.inr ⟨HG.out, rfl⟩, hb⟩
end Go.Proofs.YtilcmkiihefkkabGreatDoor.Mn
end
section
set_option linter.unusedVariables false
set_option linter.unusedSimpArgs false
set_option maxRecDepth 100000
namespace Go.Proofs.YtilcmkiihefkkabGreatDoor.Mn
open Go.RowKit
structure W3 where
  h : Int
  p : Int
  b : Bool
def W3.cells (x : W3) : List Value := [.int .i64 x.h, .int .i64 x.p, .bool x.b]
def wcells (L : List W3) : List Value := L.flatMap W3.cells
theorem wcells_cons (x : W3) (L : List W3) : wcells (x :: L) = .int .i64 x.h :: .int .i64 x.p :: .bool x.b :: wcells L := rfl
theorem wcells_append (L M : List W3) : wcells (L ++ M) = wcells L ++ wcells M := by simp [wcells]
theorem wcells_length (L : List W3) : (wcells L).length = L.length * 3 := by
  induction L with
  | nil => rfl
  | cons x L ih => rw [wcells_cons]; simp only [List.length_cons, ih]; omega
theorem wcells_at (L : List W3) : ∀ j (h : j < L.length), (wcells L)[3 * j]? = some (.int .i64 L[j].h) ∧ (wcells L)[3 * j + 1]? = some (.int .i64 L[j].p) ∧ (wcells L)[3 * j + 2]? = some (.bool L[j].b) := by
  induction L with
  | nil => intro j h; exact absurd h (by simp)
  | cons x L ih =>
    intro j h
    cases j with
    | zero => exact ⟨rfl, rfl, rfl⟩
    | succ j =>
      have := ih j (by simpa using h)
      rw [wcells_cons, show 3 * (j + 1) = 3 * j + 1 + 1 + 1 by omega, show 3 * j + 1 + 1 + 1 + 1 = 3 * j + 1 + 1 + 1 + 1 by rfl]
      simpa using this
/-- the slice of which nothing is left -/
def cut0 : Value → Value
  | .slice a _ cap => .slice a 0 cap
  | v => v
set_option maxHeartbeats 400000 in
theorem move_ne (k W next run place : Int) (Bk : Nat) (ov pv : Value) (w : World) (hov : (ov = .slice none 0 0) ∨ ∃ a n cap, ov = .slice (some a) n cap)
    (hB : w.heap[Bk]? = some (.cells #[.int .i64 k, .int .i64 W, .int .i64 next, .int .i64 run, ov, pv] 149 (0, 0)))
    (hpl : 0 ≤ place) (hpl2 : place ≤ 140737488351232) (heq : (place != next) = true) :
    Calls Tryz.prog 107 #[.pointer (some ⟨Bk, 0, none⟩), .int .i64 place] w fun e w' => e = .returned (.tuple #[]) ∧ 
       Upd w w' Bk (.cells #[.int .i64 k, .int .i64 W, .int .i64 (place + 1), .int .i64 1, cut0 ov, pv] 149 (0, 0)) := by
  have c1 : w.cell? ⟨Bk, 1, none⟩ = some (.int .i64 W) := cell_at hB rfl
  have c2 : w.cell? ⟨Bk, 2, none⟩ = some (.int .i64 next) := cell_at hB rfl
  have c3 : w.cell? ⟨Bk, 3, none⟩ = some (.int .i64 run) := cell_at hB rfl
  have c4 : w.cell? ⟨Bk, 4, none⟩ = some ov := cell_at hB rfl
  have f2 : w.frozen? ⟨Bk, 2, none⟩ = false := frozen_of_row w _ _ _ _ hB
  have f3 : w.frozen? ⟨Bk, 3, none⟩ = false := frozen_of_row w _ _ _ _ hB
  have f4 : w.frozen? ⟨Bk, 4, none⟩ = false := frozen_of_row w _ _ _ _ hB
  have HB : Hid (w.heap[Bk]? = some (.cells #[.int .i64 k, .int .i64 W, .int .i64 next, .int .i64 run, ov, pv] 149 (0, 0))) := hB
  clear hB
  rcases hov with rfl | ⟨a, n, cap, rfl⟩
  · go_enter Tryz.func107, Tryz.ntmps107
    go_wp2
    go_quiet (fail)
    go_wp2
    go_end0
    exact ⟨rfl, ((((Upd.of_setCell _ HB.out).setCell _).setCell _).setCell _).drewN _⟩
  · go_enter Tryz.func107, Tryz.ntmps107
    go_wp2
    go_quiet (fail)
    go_wp2
    go_end0
    exact ⟨rfl, ((((Upd.of_setCell _ HB.out).setCell _).setCell _).setCell _).drewN _⟩
set_option maxHeartbeats 400000 in
theorem move_eq0 (k W next run place : Int) (Bk : Nat) (ao : Option Addr) (cap : Nat) (pv : Value) (w : World) 
    (hB : w.heap[Bk]? = some (.cells #[.int .i64 k, .int .i64 W, .int .i64 next, .int .i64 run, .slice ao 0 cap, pv] 149 (0, 0)))
    (hpl : 0 ≤ place) (hpl2 : place ≤ 140737488351232) (hrun : 0 ≤ run) (hrun2 : run ≤ 140737488351232) (heq : (place != next) = false) :
    Calls Tryz.prog 107 #[.pointer (some ⟨Bk, 0, none⟩), .int .i64 place] w fun e w' => e = .returned (.tuple #[]) ∧ 
       Upd w w' Bk (.cells #[.int .i64 k, .int .i64 W, .int .i64 (place + 1), .int .i64 (run + 1), .slice ao 0 cap, pv] 149 (0, 0)) := by
  have c1 : w.cell? ⟨Bk, 1, none⟩ = some (.int .i64 W) := cell_at hB rfl
  have c2 : w.cell? ⟨Bk, 2, none⟩ = some (.int .i64 next) := cell_at hB rfl
  have c3 : w.cell? ⟨Bk, 3, none⟩ = some (.int .i64 run) := cell_at hB rfl
  have c4 : w.cell? ⟨Bk, 4, none⟩ = some (.slice ao 0 cap) := cell_at hB rfl
  have f2 : w.frozen? ⟨Bk, 2, none⟩ = false := frozen_of_row w _ _ _ _ hB
  have f3 : w.frozen? ⟨Bk, 3, none⟩ = false := frozen_of_row w _ _ _ _ hB
  have HB : Hid (w.heap[Bk]? = some (.cells #[.int .i64 k, .int .i64 W, .int .i64 next, .int .i64 run, .slice ao 0 cap, pv] 149 (0, 0))) := hB
  clear hB
  go_enter Tryz.func107, Tryz.ntmps107
  go_wp2
  go_quiet (fail)
  go_wp2
  go_end0
  exact ⟨rfl, ((Upd.of_setCell _ HB.out).setCell _).drewN _⟩
def MvOv (p0 lim : Int) (g o n cap : Nat) (ov' : Value) : Prop :=
  (p0 ≤ lim ∧ (ov' = .slice (some ⟨g, o + 3, none⟩) (n - 1) (cap - 1) ∨ (cap = 1 ∧ ov' = .slice (some ⟨g, o, none⟩) 0 0))) ∨ (¬ p0 ≤ lim ∧ ov' = .slice (some ⟨g, o, none⟩) n cap)
set_option maxHeartbeats 400000 in
theorem move_eqn (k W next run place : Int) (Bk g o n cap : Nat) (pv : Value) (w : World) (p0 : Int)
    (hB : w.heap[Bk]? = some (.cells #[.int .i64 k, .int .i64 W, .int .i64 next, .int .i64 run, .slice (some ⟨g, o, none⟩) n cap, pv] 149 (0, 0)))
    (hn : 0 < n) (hnc : n ≤ cap) (hn2 : cap ≤ maxLen) (hc : w.cell? ⟨g, o + 1, none⟩ = some (.int .i64 p0))
    (hpl : 0 ≤ place) (hpl2 : place ≤ 140737488351232) (hrun : 0 ≤ run) (hrun2 : run ≤ 140737488351232) (hW : 1 ≤ W) (hW2 : W ≤ 20) (heq : (place != next) = false) (hgB : g ≠ Bk) :
    Calls Tryz.prog 107 #[.pointer (some ⟨Bk, 0, none⟩), .int .i64 place] w fun e w' => e = .returned (.tuple #[]) ∧ 
       ∃ ov', MvOv p0 (place - W) g o n cap ov' ∧
       Upd w w' Bk (.cells #[.int .i64 k, .int .i64 W, .int .i64 (place + 1), .int .i64 (run + 1), ov', pv] 149 (0, 0)) := by
  have c1 : w.cell? ⟨Bk, 1, none⟩ = some (.int .i64 W) := cell_at hB rfl
  have c2 : w.cell? ⟨Bk, 2, none⟩ = some (.int .i64 next) := cell_at hB rfl
  have c3 : w.cell? ⟨Bk, 3, none⟩ = some (.int .i64 run) := cell_at hB rfl
  have c4 : w.cell? ⟨Bk, 4, none⟩ = some (.slice (some ⟨g, o, none⟩) n cap) := cell_at hB rfl
  have f2 : w.frozen? ⟨Bk, 2, none⟩ = false := frozen_of_row w _ _ _ _ hB
  have f3 : w.frozen? ⟨Bk, 3, none⟩ = false := frozen_of_row w _ _ _ _ hB
  have f4 : w.frozen? ⟨Bk, 4, none⟩ = false := frozen_of_row w _ _ _ _ hB
  have hnI : (0 : Int) < n := by omega
  have HB : Hid (w.heap[Bk]? = some (.cells #[.int .i64 k, .int .i64 W, .int .i64 next, .int .i64 run, .slice (some ⟨g, o, none⟩) n cap, pv] 149 (0, 0))) := hB
  clear hB
  unfold maxLen at hn2
  by_cases hexp : p0 ≤ place - W
  · by_cases h1 : cap = 1
    · go_enter Tryz.func107, Tryz.ntmps107
      go_wp2
      go_quiet (fail)
      go_wp2
      go_end0
      exact ⟨rfl, _, Or.inl ⟨hexp, Or.inr ⟨h1, by rw [show n - 1 = 0 by omega]⟩⟩, (((Upd.of_setCell _ HB.out).setCell _).drewN _).setCell _⟩
    · have h1' : 1 < cap := by omega
      go_enter Tryz.func107, Tryz.ntmps107
      go_wp2
      go_quiet (fail)
      go_wp2
      go_end0
      exact ⟨rfl, _, Or.inl ⟨hexp, Or.inl rfl⟩, (((Upd.of_setCell _ HB.out).setCell _).drewN _).setCell _⟩
  · go_enter Tryz.func107, Tryz.ntmps107
    go_wp2
    go_quiet (fail)
    go_wp2
    go_end0
    exact ⟨rfl, _, Or.inr ⟨by omega, rfl⟩, ((Upd.of_setCell _ HB.out).setCell _).drewN _⟩
end Go.Proofs.YtilcmkiihefkkabGreatDoor.Mn
end
