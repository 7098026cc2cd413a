import Derived.Lib.IndexLaws
import Derived.Test.YtilcmkiihefkkabGreatDoorJk14
import Derived.Test.YtilcmkiihefkkabGreatDoorJk8
section
set_option linter.unusedVariables false
set_option linter.unusedSimpArgs false
set_option maxRecDepth 100000
namespace Go.Proofs.YtilcmkiihefkkabGreatDoor.Mn
open Go.RowKit
/-- the lines of a text, of which 'cur' is read already -/
def linesA : List UInt8 → List UInt8 → List (List UInt8)
  | cur, [] => if cur = [] then [] else [cur]
  | cur, c :: r => if c = 10 then cur :: linesA [] r else linesA (cur ++ [c]) r
theorem linesA_run : ∀ (l : List UInt8) (cur r : List UInt8), (∀ c ∈ l, c ≠ 10) → linesA cur (l ++ r) = linesA (cur ++ l) r
  | [], cur, r, _ => by simp
  | c :: l, cur, r, h => by
    have h1 : c ≠ 10 := h c (by simp)
    show linesA cur (c :: (l ++ r)) = _
    rw [linesA, if_neg h1, linesA_run l (cur ++ [c]) r (fun x hx => h x (by simp [hx]))]
    simp
theorem linesA_hit (l r : List UInt8) (h : ∀ c ∈ l, c ≠ 10) : linesA [] (l ++ 10 :: r) = l :: linesA [] r := by
  rw [linesA_run l [] (10 :: r) h, linesA, if_pos rfl]
  simp
theorem linesA_miss (l : List UInt8) (h : ∀ c ∈ l, c ≠ 10) (h0 : l ≠ []) : linesA [] l = [l] := by
  have := linesA_run l [] [] h
  rw [List.append_nil] at this
  rw [this, linesA, if_neg (by simpa using h0)]
  simp
/-- the lines of a text -/
def linesB (s : ByteArray) : List ByteArray := (linesA [] s.data.toList).map fun l => ⟨l.toArray⟩
theorem linesB_length_le : ∀ (l cur : List UInt8), (linesA cur l).length ≤ l.length + (if cur = [] then 0 else 1)
  | [], cur => by rw [linesA]; split <;> simp
  | c :: r, cur => by
    rw [linesA]
    split
    · have := linesB_length_le r []
      simp at this ⊢
      split <;> omega
    · have := linesB_length_le r (cur ++ [c])
      rw [if_neg (by simp)] at this
      simp
      split <;> omega
theorem list_extract (s : ByteArray) (a b : Nat) : (s.extract a b).data.toList = (s.data.toList.drop a).take (b - a) := by
  rw [ByteArray.data_extract, Array.toList_extract]
/-- what a cut at the first end of a line gives -/
def CutAt (s line rest : ByteArray) : Prop := rest.size < s.size ∧ line.size ≤ s.size ∧ linesB s = line :: linesB rest
theorem list_mk (s : ByteArray) : (⟨s.data.toList.toArray⟩ : ByteArray) = s := by cases s; simp
theorem list_len (s : ByteArray) : s.data.toList.length = s.size := Array.length_toList
theorem cut_hit (s : ByteArray) (i : Nat) (h : Lib.indexByte s.data.toList 10 = i) : CutAt s (s.extract 0 i) (s.extract (i + 1) s.size) := by
  obtain ⟨h1, h2⟩ := Lib.indexByte_some h
  have hi : i < s.data.toList.length := by
    rcases Nat.lt_or_ge i s.data.toList.length with h | h
    · exact h
    · rw [List.getElem?_eq_none h] at h1; exact absurd h1 (by simp)
  have hsz := list_len s
  have e0 : s.data.toList = s.data.toList.take i ++ 10 :: s.data.toList.drop (i + 1) := by
    have := List.take_append_drop i s.data.toList
    rw [List.drop_eq_getElem_cons hi] at this
    rw [List.getElem?_eq_getElem hi] at h1
    simp only [Option.some.injEq] at h1
    rw [h1] at this
    exact this.symm
  refine ⟨by rw [← list_len, list_extract]; simp; omega, by rw [← list_len, list_extract]; simp; omega, ?_⟩
  unfold linesB
  rw [e0, linesA_hit _ _ (by
    intro c hc
    obtain ⟨j, hj, hjc⟩ := List.getElem_of_mem hc
    have hj' : j < i := by simp at hj; omega
    have := h2 j hj'
    intro he
    apply this
    rw [List.getElem?_eq_getElem (by omega)]
    rw [List.getElem_take] at hjc
    rw [hjc, he])]
  rw [List.map_cons]
  congr 1
  · have := list_mk (s.extract 0 i)
    rw [list_extract] at this
    simpa using this
  · have := list_extract s (i + 1) s.size
    rw [this, List.take_of_length_le (by simp)]
theorem cut_miss (s : ByteArray) (h : Lib.indexByte s.data.toList 10 = -1) (h0 : s.size ≠ 0) : CutAt s s ⟨#[]⟩ := by
  have h1 := Lib.indexByte_none h
  have hsz := list_len s
  refine ⟨by show 0 < _; omega, Nat.le_refl _, ?_⟩
  unfold linesB
  rw [linesA_miss _ (by
    intro c hc he
    obtain ⟨j, hj, hjc⟩ := List.getElem_of_mem hc
    apply h1 j
    rw [List.getElem?_eq_getElem hj, hjc, he]) (by intro he; rw [he] at hsz; simp at hsz; omega)]
  simp [linesA]
set_option maxRecDepth 100000 in
set_option maxHeartbeats 1000000 in
theorem index_any (s : ByteArray) (w : World) (hs : s.size ≤ 8000) :
    Calls Tryz.prog 104 #[.string s, .string ⟨#[10]⟩] w fun e w' => e = .returned (.int .i64 (Lib.indexByte s.data.toList 10)) ∧ w' = w := by
  cases hb : (([10] : List UInt8) == s.toList)
  · go_enter Tryz.func104, Tryz.ntmps104
    go_wp2_with (first | (go_at_call 106; refine (ib56 _ _ _).mono ?_; rintro e w' ⟨rfl, rfl⟩) | go_in)
    go_ret
    exact ⟨rfl, rfl⟩
  · have HE : Hid (Lib.indexByte s.data.toList 10 = 0) := by
      show _ = _
      have h := eq_of_beq hb
      rw [ByteArray.toList_eq] at h
      rw [← h]
      rfl
    go_enter Tryz.func104, Tryz.ntmps104
    go_wp2_with (first | (go_at_call 106; refine (ib56 _ _ _).mono ?_; rintro e w' ⟨rfl, rfl⟩) | go_in)
    go_ret
    rw [HE.out]
    exact ⟨rfl, rfl⟩
set_option maxRecDepth 100000 in
set_option maxHeartbeats 1000000 in
theorem cut_any (s : ByteArray) (w : World) (hs : s.size ≤ 8000) (h0 : s.size ≠ 0) :
    Calls Tryz.prog 66 #[.string s, .string ⟨#[10]⟩] w fun e w' => ∃ line rest f, e = .returned (.tuple #[.string line, .string rest, .bool f]) ∧ CutAt s line rest ∧ ∃ n, w' = w.drewN n := by
  have hge := Lib.indexByte_ge s.data.toList 10
  obtain ⟨x, hx⟩ : ∃ x, x = Lib.indexByte s.data.toList 10 := ⟨_, rfl⟩
  by_cases hm : x = -1
  · have HC : Hid (CutAt s s ⟨#[]⟩) := cut_miss s (by rw [← hx, hm]) h0
    have HX : Hid (Lib.indexByte s.data.toList 10 = -1) := by rw [← hx, hm]; exact rfl
    clear hx hge
    go_enter Tryz.func66, Tryz.ntmps66
    go_wp2_with (go_at_call 104; refine (index_any _ _ hs).mono ?_; rintro e w' ⟨rfl, rfl⟩; rw [HX.out])
    go_ret3
    exact ⟨_, _, _, rfl, HC.out, 0, rfl⟩
  · obtain ⟨i, rfl⟩ : ∃ i : Nat, x = i := ⟨x.toNat, by omega⟩
    have HC : Hid (CutAt s (s.extract 0 i) (s.extract (i + 1) s.size)) := cut_hit s i hx.symm
    have HX : Hid (Lib.indexByte s.data.toList 10 = i) := hx.symm
    have hi : i + 1 ≤ s.size := by
      obtain ⟨h1, _⟩ := Lib.indexByte_some hx.symm
      rcases Nat.lt_or_ge i s.data.toList.length with h | h
      · rw [list_len] at h; omega
      · rw [List.getElem?_eq_none h] at h1; exact absurd h1 (by simp)
    have c2 : (i : Int) ≤ s.size := by omega
    have c4 : (i + 1 : Int) ≤ s.size := by omega
    clear hx hge hm
    go_enter Tryz.func66, Tryz.ntmps66
    go_wp2_with (go_at_call 104; refine (index_any _ _ hs).mono ?_; rintro e w' ⟨rfl, rfl⟩; rw [HX.out])
    go_region
    all_goals go_wp2
    all_goals go_ret3
    all_goals exact ⟨_, _, _, rfl, HC.out, 1, rfl⟩
end Go.Proofs.YtilcmkiihefkkabGreatDoor.Mn
end
section
set_option linter.unusedVariables false
set_option linter.unusedSimpArgs false
namespace Go.Proofs.YtilcmkiihefkkabGreatDoor.Mn
open Go.RowKit
set_option maxRecDepth 100000 in
set_option maxHeartbeats 1000000 in
theorem scut_any (s : ByteArray) (w : World) (hs : s.size ≤ 8000) (h0 : s.size ≠ 0) :
    Calls Tryz.prog 47 #[.string s, .string ⟨#[10]⟩] w fun e w' => ∃ line rest f, e = .returned (.tuple #[.string line, .string rest, .bool f]) ∧ CutAt s line rest ∧ ∃ n, w' = w.drewN n := by
  go_enter Tryz.func47, Tryz.ntmps47
  go_wp2_with (go_at_call 66; refine (cut_any s _ hs h0).mono ?_; rintro e w' ⟨line, rest, f, rfl, hc, n, rfl⟩)
  go_ret3
  exact ⟨_, _, _, rfl, hc, n, rfl⟩
/-- does a line begin a sequence? -/
def begins (s : ByteArray) : Prop := ∃ h : 0 < s.size, s[0] = 62
theorem begins_iff (s : ByteArray) (h : 1 ≤ s.size) : ((s.extract 0 1).toList == ([62] : List UInt8)) = true ↔ begins s := by
  rw [beq_iff_eq, ByteArray.toList_eq, list_extract]
  have hl := list_len s
  have hg : s[0] = s.data.toList[0]'(by omega) := by rw [Array.getElem_toList]; rfl
  cases hd : s.data.toList with
  | nil => rw [hd] at hl; simp at hl; omega
  | cons c r =>
    have hc : s[0] = c := by rw [hg]; simp [hd]
    constructor
    · intro e
      simp at e
      exact ⟨h, by rw [hc, e]⟩
    · intro ⟨_, e⟩
      rw [hc] at e
      simp [e]
set_option maxRecDepth 100000 in
set_option maxHeartbeats 1000000 in
theorem hasPrefix_any (s : ByteArray) (w : World) (hs : s.size ≤ 8000) :
    Calls Tryz.prog 105 #[.string s, .string ⟨#[62]⟩] w fun e w' => ((begins s ∧ e = .returned (.bool true)) ∨ (¬ begins s ∧ e = .returned (.bool false))) ∧ w' = w := by
  by_cases h1 : 1 ≤ s.size
  · have hb := begins_iff s h1
    have c1 : (1 : Int) ≤ s.size := by omega
    cases hx : ((s.extract 0 1).toList == ([62] : List UInt8))
    · have HB : Hid (¬ begins s) := fun h => by rw [hb.2 h] at hx; exact absurd hx (by simp)
      clear hb
      go_enter Tryz.func105, Tryz.ntmps105
      go_wp2
      go_ret
      exact ⟨Or.inr ⟨HB.out, by simp [hx]⟩, rfl⟩
    · have HB : Hid (begins s) := hb.1 hx
      clear hb
      go_enter Tryz.func105, Tryz.ntmps105
      go_wp2
      go_ret
      exact ⟨Or.inl ⟨HB.out, by simp [hx]⟩, rfl⟩
  · have HB : Hid (¬ begins s) := fun ⟨h, _⟩ => h1 h
    have c1 : ¬ (1 : Int) ≤ s.size := by omega
    go_enter Tryz.func105, Tryz.ntmps105
    go_wp2
    go_ret
    exact ⟨Or.inr ⟨HB.out, rfl⟩, rfl⟩
set_option maxRecDepth 100000 in
set_option maxHeartbeats 1000000 in
theorem cutPrefix_any (s : ByteArray) (w : World) (hs : s.size ≤ 8000) :
    Calls Tryz.prog 67 #[.string s, .string ⟨#[62]⟩] w fun e w' => ((begins s ∧ e = .returned (.tuple #[.string (s.extract 1 s.size), .bool true])) ∨ (¬ begins s ∧ e = .returned (.tuple #[.string s, .bool false]))) ∧ w' = w := by
  go_enter Tryz.func67, Tryz.ntmps67
  go_wp2_with fail
  refine (hasPrefix_any s w hs).mono ?_
  rintro e w' ⟨h, rfl⟩
  rcases h with ⟨hg, rfl⟩ | ⟨hb, rfl⟩
  · have h1 : 1 ≤ s.size := hg.1
    have c1 : (1 : Int) ≤ s.size := by omega
    have HG : Hid (begins s) := hg
    clear hg
    go_wp2
    go_ret2
    exact ⟨Or.inl ⟨HG.out, rfl⟩, rfl⟩
  · have HG : Hid (¬ begins s) := hb
    clear hb
    go_wp2
    go_ret2
    exact ⟨Or.inr ⟨HG.out, rfl⟩, rfl⟩
set_option maxRecDepth 100000 in
set_option maxHeartbeats 1000000 in
theorem scutPrefix_any (s : ByteArray) (w : World) (hs : s.size ≤ 8000) :
    Calls Tryz.prog 48 #[.string s, .string ⟨#[62]⟩] w fun e w' => ((begins s ∧ e = .returned (.tuple #[.string (s.extract 1 s.size), .bool true])) ∨ (¬ begins s ∧ e = .returned (.tuple #[.string s, .bool false]))) ∧ w' = w := by
  go_enter Tryz.func48, Tryz.ntmps48
  go_wp2_with fail
  refine (cutPrefix_any s w hs).mono ?_
  rintro e w' ⟨h, rfl⟩
  rcases h with ⟨hg, rfl⟩ | ⟨hb, rfl⟩
  · have HG : Hid (begins s) := hg
    clear hg
    go_wp2
    go_ret2
    exact ⟨Or.inl ⟨HG.out, rfl⟩, rfl⟩
  · have HG : Hid (¬ begins s) := hb
    clear hb
    go_wp2
    go_ret2
    exact ⟨Or.inr ⟨HG.out, rfl⟩, rfl⟩
/-- may a text be a name? -/
def nameOK (s : ByteArray) : Prop := 1 ≤ s.size ∧ s.size ≤ 16 ∧ ∀ j (hj : j < s.size), 33 ≤ s[j].toNat ∧ s[j].toNat ≤ 126
set_option maxRecDepth 100000 in
set_option maxHeartbeats 1000000 in
theorem nameMayBe_any (s : ByteArray) (w : World) (hs : s.size ≤ 8000) :
    Calls Tryz.prog 68 #[.string s] w fun e w' => ((nameOK s ∧ e = .returned (.bool true)) ∨ (¬ nameOK s ∧ e = .returned (.bool false))) ∧ w' = w := by
  by_cases h1 : 1 ≤ s.size
  · by_cases h2 : s.size ≤ 16
    · have c1 : (1 : Int) ≤ s.size := by omega
      have c2 : (s.size : Int) ≤ 16 := by omega
      go_enter Tryz.func68, Tryz.ntmps68
      go_wp2
      go_loop [14] (fun i => ∃ k : Nat, k ≤ s.size ∧ i = .int .i64 k ∧ ∀ j (hj : j < s.size), j < k → 33 ≤ s[j].toNat ∧ s[j].toNat ≤ 126) (fun i => s.size - (RowKit.intOf i).toNat)
      case atStart => exact ⟨0, Nat.zero_le _, rfl, fun j hj h => absurd h (by omega)⟩
      case round =>
        obtain ⟨k, hk, rfl, hall⟩ := hrel
        have HA : Hid (∀ j (hj : j < s.size), j < k → 33 ≤ s[j].toNat ∧ s[j].toNat ≤ 126) := hall
        clear hall
        by_cases hlt : k < s.size
        · by_cases hn : 33 ≤ s[k].toNat
          · by_cases hm : s[k].toNat ≤ 126
            · have d1 : (33 : Int) ≤ (s[k].toNat : Int) := by omega
              have d2 : (s[k].toNat : Int) ≤ 126 := by omega
              go_wp2
              go_round
              case rel =>
                refine ⟨k + 1, by omega, by go_num, fun j hj h => ?_⟩
                by_cases hjk : j < k
                · exact HA.out j hj hjk
                · obtain rfl : j = k := by omega
                  exact ⟨hn, hm⟩
              case measure => simp [RowKit.intOf]; omega
            · have HB : Hid (¬ nameOK s) := fun h => absurd (h.2.2 k hlt).2 hm
              have d1 : (33 : Int) ≤ (s[k].toNat : Int) := by omega
              have d2 : ¬ (s[k].toNat : Int) ≤ 126 := by omega
              go_wp2
              go_ret
              exact ⟨Or.inr ⟨HB.out, rfl⟩, rfl⟩
          · have HB : Hid (¬ nameOK s) := fun h => absurd (h.2.2 k hlt).1 hn
            have d1 : ¬ (33 : Int) ≤ (s[k].toNat : Int) := by omega
            go_wp2
            go_ret
            exact ⟨Or.inr ⟨HB.out, rfl⟩, rfl⟩
        · go_wp2
          go_ret
          exact ⟨Or.inl ⟨⟨h1, h2, fun j hj => HA.out j hj (by omega)⟩, rfl⟩, rfl⟩
    · have HB : Hid (¬ nameOK s) := fun h => h2 h.2.1
      have c1 : (1 : Int) ≤ s.size := by omega
      have c2 : ¬ (s.size : Int) ≤ 16 := by omega
      go_enter Tryz.func68, Tryz.ntmps68
      go_wp2
      go_ret
      exact ⟨Or.inr ⟨HB.out, rfl⟩, rfl⟩
  · have HB : Hid (¬ nameOK s) := fun h => h1 h.1
    have c1 : ¬ (1 : Int) ≤ s.size := by omega
    go_enter Tryz.func68, Tryz.ntmps68
    go_wp2
    go_ret
    exact ⟨Or.inr ⟨HB.out, rfl⟩, rfl⟩
end Go.Proofs.YtilcmkiihefkkabGreatDoor.Mn
end
