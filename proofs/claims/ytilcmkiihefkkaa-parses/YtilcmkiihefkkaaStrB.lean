import Derived.Test.YtilcmkiihefkkaaStrA
set_option linter.unusedVariables false
set_option linter.unusedSimpArgs false
namespace Go.Proofs.Ytilcmkiihefkkaa
open Go.RowKit

set_option maxRecDepth 100000 in
set_option maxHeartbeats 1000000 in
theorem scut_any (s : ByteArray) (w : World) (hs : s.size ≤ 8000) (h0 : s.size ≠ 0) :
    Calls Try.prog 51 #[.string s, .string ⟨#[10]⟩] w fun e w' => ∃ line rest f, e = .returned (.tuple #[.string line, .string rest, .bool f]) ∧ CutAt s line rest ∧ ∃ n, w' = w.drewN n := by
  go_enter Try.func51, Try.ntmps51
  go_wp2_with (go_at_call 74; refine (cut_any s _ hs h0).mono ?_; rintro e w' ⟨line, rest, f, rfl, hc, n, rfl⟩)
  go_ret3
  exact ⟨_, _, _, rfl, hc, n, rfl⟩

/-- does a line begin a sequence? -/
def begins (s : ByteArray) : Prop := ∃ h : 0 < s.size, s[0] = 62

theorem begins_iff (s : ByteArray) (h : 1 ≤ s.size) : ((s.extract 0 1).toList == ([62] : List UInt8)) = true ↔ begins s := by
  rw [beq_iff_eq, ByteArray.toList_eq, list_extract]
  have hl := list_len s
  have hg : s[0] = s.data.toList[0]'(by omega) := by rw [Array.getElem_toList]; rfl
  cases hd : s.data.toList with
  | nil => rw [hd] at hl; simp at hl; omega
  | cons c r =>
    have hc : s[0] = c := by rw [hg]; simp [hd]
    constructor
    · intro e
      simp at e
      exact ⟨h, by rw [hc, e]⟩
    · intro ⟨_, e⟩
      rw [hc] at e
      simp [e]

set_option maxRecDepth 100000 in
set_option maxHeartbeats 1000000 in
theorem hasPrefix_any (s : ByteArray) (w : World) (hs : s.size ≤ 8000) :
    Calls Try.prog 87 #[.string s, .string ⟨#[62]⟩] w fun e w' => ((begins s ∧ e = .returned (.bool true)) ∨ (¬ begins s ∧ e = .returned (.bool false))) ∧ w' = w := by
  by_cases h1 : 1 ≤ s.size
  · have hb := begins_iff s h1
    have c1 : (1 : Int) ≤ s.size := by omega
    cases hx : ((s.extract 0 1).toList == ([62] : List UInt8))
    · have HB : Hid (¬ begins s) := fun h => by rw [hb.2 h] at hx; exact absurd hx (by simp)
      clear hb
      go_enter Try.func87, Try.ntmps87
      go_wp2
      go_ret
      exact ⟨Or.inr ⟨HB.out, by simp [hx]⟩, rfl⟩
    · have HB : Hid (begins s) := hb.1 hx
      clear hb
      go_enter Try.func87, Try.ntmps87
      go_wp2
      go_ret
      exact ⟨Or.inl ⟨HB.out, by simp [hx]⟩, rfl⟩
  · have HB : Hid (¬ begins s) := fun ⟨h, _⟩ => h1 h
    have c1 : ¬ (1 : Int) ≤ s.size := by omega
    go_enter Try.func87, Try.ntmps87
    go_wp2
    go_ret
    exact ⟨Or.inr ⟨HB.out, rfl⟩, rfl⟩

set_option maxRecDepth 100000 in
set_option maxHeartbeats 1000000 in
theorem cutPrefix_any (s : ByteArray) (w : World) (hs : s.size ≤ 8000) :
    Calls Try.prog 75 #[.string s, .string ⟨#[62]⟩] w fun e w' => ((begins s ∧ e = .returned (.tuple #[.string (s.extract 1 s.size), .bool true])) ∨ (¬ begins s ∧ e = .returned (.tuple #[.string s, .bool false]))) ∧ w' = w := by
  go_enter Try.func75, Try.ntmps75
  go_wp2_with fail
  refine (hasPrefix_any s w hs).mono ?_
  rintro e w' ⟨h, rfl⟩
  rcases h with ⟨hg, rfl⟩ | ⟨hb, rfl⟩
  · have h1 : 1 ≤ s.size := hg.1
    have c1 : (1 : Int) ≤ s.size := by omega
    have HG : Hid (begins s) := hg
    clear hg
    go_wp2
    go_ret2
    exact ⟨Or.inl ⟨HG.out, rfl⟩, rfl⟩
  · have HG : Hid (¬ begins s) := hb
    clear hb
    go_wp2
    go_ret2
    exact ⟨Or.inr ⟨HG.out, rfl⟩, rfl⟩

set_option maxRecDepth 100000 in
set_option maxHeartbeats 1000000 in
theorem scutPrefix_any (s : ByteArray) (w : World) (hs : s.size ≤ 8000) :
    Calls Try.prog 52 #[.string s, .string ⟨#[62]⟩] w fun e w' => ((begins s ∧ e = .returned (.tuple #[.string (s.extract 1 s.size), .bool true])) ∨ (¬ begins s ∧ e = .returned (.tuple #[.string s, .bool false]))) ∧ w' = w := by
  go_enter Try.func52, Try.ntmps52
  go_wp2_with fail
  refine (cutPrefix_any s w hs).mono ?_
  rintro e w' ⟨h, rfl⟩
  rcases h with ⟨hg, rfl⟩ | ⟨hb, rfl⟩
  · have HG : Hid (begins s) := hg
    clear hg
    go_wp2
    go_ret2
    exact ⟨Or.inl ⟨HG.out, rfl⟩, rfl⟩
  · have HG : Hid (¬ begins s) := hb
    clear hb
    go_wp2
    go_ret2
    exact ⟨Or.inr ⟨HG.out, rfl⟩, rfl⟩

/-- may a text be a name? -/
def nameOK (s : ByteArray) : Prop := 1 ≤ s.size ∧ s.size ≤ 16 ∧ ∀ j (hj : j < s.size), 33 ≤ s[j].toNat ∧ s[j].toNat ≤ 126

set_option maxRecDepth 100000 in
set_option maxHeartbeats 1000000 in
theorem nameMayBe_any (s : ByteArray) (w : World) (hs : s.size ≤ 8000) :
    Calls Try.prog 76 #[.string s] w fun e w' => ((nameOK s ∧ e = .returned (.bool true)) ∨ (¬ nameOK s ∧ e = .returned (.bool false))) ∧ w' = w := by
  by_cases h1 : 1 ≤ s.size
  · by_cases h2 : s.size ≤ 16
    · have c1 : (1 : Int) ≤ s.size := by omega
      have c2 : (s.size : Int) ≤ 16 := by omega
      go_enter Try.func76, Try.ntmps76
      go_wp2
      go_loop [14] (fun i => ∃ k : Nat, k ≤ s.size ∧ i = .int .i64 k ∧ ∀ j (hj : j < s.size), j < k → 33 ≤ s[j].toNat ∧ s[j].toNat ≤ 126) (fun i => s.size - (intOf i).toNat)
      case atStart => exact ⟨0, Nat.zero_le _, rfl, fun j hj h => absurd h (by omega)⟩
      case round =>
        obtain ⟨k, hk, rfl, hall⟩ := hrel
        have HA : Hid (∀ j (hj : j < s.size), j < k → 33 ≤ s[j].toNat ∧ s[j].toNat ≤ 126) := hall
        clear hall
        by_cases hlt : k < s.size
        · by_cases hn : 33 ≤ s[k].toNat
          · by_cases hm : s[k].toNat ≤ 126
            · have d1 : (33 : Int) ≤ (s[k].toNat : Int) := by omega
              have d2 : (s[k].toNat : Int) ≤ 126 := by omega
              go_wp2
              go_round
              case rel =>
                refine ⟨k + 1, by omega, by go_num, fun j hj h => ?_⟩
                by_cases hjk : j < k
                · exact HA.out j hj hjk
                · obtain rfl : j = k := by omega
                  exact ⟨hn, hm⟩
              case measure => simp [intOf]; omega
            · have HB : Hid (¬ nameOK s) := fun h => absurd (h.2.2 k hlt).2 hm
              have d1 : (33 : Int) ≤ (s[k].toNat : Int) := by omega
              have d2 : ¬ (s[k].toNat : Int) ≤ 126 := by omega
              go_wp2
              go_ret
              exact ⟨Or.inr ⟨HB.out, rfl⟩, rfl⟩
          · have HB : Hid (¬ nameOK s) := fun h => absurd (h.2.2 k hlt).1 hn
            have d1 : ¬ (33 : Int) ≤ (s[k].toNat : Int) := by omega
            go_wp2
            go_ret
            exact ⟨Or.inr ⟨HB.out, rfl⟩, rfl⟩
        · go_wp2
          go_ret
          exact ⟨Or.inl ⟨⟨h1, h2, fun j hj => HA.out j hj (by omega)⟩, rfl⟩, rfl⟩
    · have HB : Hid (¬ nameOK s) := fun h => h2 h.2.1
      have c1 : (1 : Int) ≤ s.size := by omega
      have c2 : ¬ (s.size : Int) ≤ 16 := by omega
      go_enter Try.func76, Try.ntmps76
      go_wp2
      go_ret
      exact ⟨Or.inr ⟨HB.out, rfl⟩, rfl⟩
  · have HB : Hid (¬ nameOK s) := fun h => h1 h.1
    have c1 : ¬ (1 : Int) ≤ s.size := by omega
    go_enter Try.func76, Try.ntmps76
    go_wp2
    go_ret
    exact ⟨Or.inr ⟨HB.out, rfl⟩, rfl⟩

set_option maxRecDepth 100000 in
set_option maxHeartbeats 1000000 in
theorem rname_any (s : ByteArray) (w : World) (hs : s.size ≤ 8000) :
    Calls Try.prog 30 #[.string s] w fun e w' => ((nameOK s ∧ e = .returned (.bool true)) ∨ (¬ nameOK s ∧ e = .returned (.bool false))) ∧ w' = w := by
  by_cases h1 : 1 ≤ s.size
  · by_cases h2 : s.size ≤ 16
    · have c1 : (1 : Int) ≤ s.size := by omega
      have c2 : (s.size : Int) ≤ 16 := by omega
      go_enter Try.func30, Try.ntmps30
      go_wp2
      go_loop [3] (fun i => ∃ k : Nat, k ≤ s.size ∧ i = .int .i64 k ∧ ∀ j (hj : j < s.size), j < k → 33 ≤ s[j].toNat ∧ s[j].toNat ≤ 126) (fun i => s.size - (intOf i).toNat)
      case atStart => exact ⟨0, Nat.zero_le _, rfl, fun j hj h => absurd h (by omega)⟩
      case round =>
        obtain ⟨k, hk, rfl, hall⟩ := hrel
        have HA : Hid (∀ j (hj : j < s.size), j < k → 33 ≤ s[j].toNat ∧ s[j].toNat ≤ 126) := hall
        clear hall
        by_cases hlt : k < s.size
        · by_cases hn : 33 ≤ s[k].toNat
          · by_cases hm : s[k].toNat ≤ 126
            · have d1 : (33 : Int) ≤ (s[k].toNat : Int) := by omega
              have d2 : (s[k].toNat : Int) ≤ 126 := by omega
              go_wp2
              go_round
              case rel =>
                refine ⟨k + 1, by omega, by go_num, fun j hj h => ?_⟩
                by_cases hjk : j < k
                · exact HA.out j hj hjk
                · obtain rfl : j = k := by omega
                  exact ⟨hn, hm⟩
              case measure => simp [intOf]; omega
            · have HB : Hid (¬ nameOK s) := fun h => absurd (h.2.2 k hlt).2 hm
              have d1 : (33 : Int) ≤ (s[k].toNat : Int) := by omega
              have d2 : ¬ (s[k].toNat : Int) ≤ 126 := by omega
              go_wp2
              go_ret
              exact ⟨Or.inr ⟨HB.out, rfl⟩, rfl⟩
          · have HB : Hid (¬ nameOK s) := fun h => absurd (h.2.2 k hlt).1 hn
            have d1 : ¬ (33 : Int) ≤ (s[k].toNat : Int) := by omega
            go_wp2
            go_ret
            exact ⟨Or.inr ⟨HB.out, rfl⟩, rfl⟩
        · go_wp2
          go_ret
          exact ⟨Or.inl ⟨⟨h1, h2, fun j hj => HA.out j hj (by omega)⟩, rfl⟩, rfl⟩
    · have HB : Hid (¬ nameOK s) := fun h => h2 h.2.1
      have c1 : (1 : Int) ≤ s.size := by omega
      have c2 : ¬ (s.size : Int) ≤ 16 := by omega
      go_enter Try.func30, Try.ntmps30
      go_wp2
      go_ret
      exact ⟨Or.inr ⟨HB.out, rfl⟩, rfl⟩
  · have HB : Hid (¬ nameOK s) := fun h => h1 h.1
    have c1 : ¬ (1 : Int) ≤ s.size := by omega
    go_enter Try.func30, Try.ntmps30
    go_wp2
    go_ret
    exact ⟨Or.inr ⟨HB.out, rfl⟩, rfl⟩

end Go.Proofs.Ytilcmkiihefkkaa
