import Derived.Test.YtilcmkiihefkkaaRefA
set_option linter.unusedVariables false
set_option linter.unusedSimpArgs false
set_option maxRecDepth 100000
namespace Go.Proofs.Ytilcmkiihefkkaa
open Go.RowKit

theorem extract_toList (s : ByteArray) (i j : Nat) (hij : i ≤ j) (h : j ≤ s.size) : (s.extract i j).data.toList = (s.data.toList.drop i).take (j - i) := by
  rw [ByteArray.data_extract]
  simp [Array.toList_extract, List.extract_eq_take_drop]

theorem extract_size (s : ByteArray) (i j : Nat) (hij : i ≤ j) (h : j ≤ s.size) : (s.extract i j).size = j - i := by
  rw [ByteArray.size_extract]
  omega

theorem extract_good (s : ByteArray) (i j : Nat) (hij : i ≤ j) (h : j ≤ s.size) (hg : good s) : good (s.extract i j) := by
  have h1 := good_list hg
  have h2 : ∀ c ∈ (s.extract i j).data.toList, 0 ≤ numb c := by
    intro c hc
    rw [extract_toList s i j hij h] at hc
    exact h1 c (List.mem_of_mem_drop (List.mem_of_mem_take hc))
  have := list_good h2
  rwa [mk_data] at this

theorem nums_extract (s : ByteArray) (p k : Nat) (h : p + k ≤ s.size) : nums (s.extract p (p + k)).data.toList = seg (nums s.data.toList) p k := by
  rw [extract_toList s p (p + k) (by omega) h]
  unfold nums seg
  rw [List.map_take, List.map_drop, show p + k - p = k by omega]

theorem tcodeL_turn (l : List UInt8) (h4 : ∀ m ∈ nums l, m < 4) : codeL (nums (turnL l)) = tcodeL (nums l) := by
  rw [nums_turnL]
  unfold tcodeL
  congr 2
  apply List.map_congr_left
  intro m hm
  have := h4 m hm
  unfold comp
  rw [if_neg (by omega)]

set_option maxRecDepth 100000 in
set_option maxHeartbeats 2000000 in
theorem rword_any (s : ByteArray) (p k : Nat) (w : World) (hs : s.size ≤ 4398046510000) (hk1 : 1 ≤ k) (hk2 : k ≤ 12) (hp : p + k ≤ s.size) (HG : Hid (good s)) :
    Calls Try.prog 40 #[.string s, .int .i64 p, .int .i64 k] w fun e w' =>
      ((isW (nums s.data.toList) k p = false ∧ e = .returned (.tuple #[.agg #[.int .i64 0, .int .i64 0, .bool false], .int .i64 0])) ∨
       (isW (nums s.data.toList) k p = true ∧ candW (nums s.data.toList) k p = none ∧ e = .returned (.tuple #[.agg #[.int .i64 0, .int .i64 0, .bool false], .int .i64 1])) ∨
       (∃ x, candW (nums s.data.toList) k p = some x ∧ e = .returned (.tuple #[.agg #[.int .i64 x.h, .int .i64 x.p, .bool x.b], .int .i64 2]))) ∧ Below w.heap.size w w' := by
  obtain ⟨pk, hpk⟩ : ∃ pk : Nat, (p : Int) + k = pk := ⟨p + k, by omega⟩
  have hpk2 : pk = p + k := by omega
  have hpks : (pk : Int) ≤ s.size := by omega
  have hppk : (p : Int) ≤ pk := by omega
  obtain ⟨u, hu⟩ : ∃ u, u = s.extract p pk := ⟨_, rfl⟩
  have husz : u.size = k := by rw [hu, extract_size s p pk (by omega) (by omega)]; omega
  have hug : good u := by rw [hu]; exact extract_good s p pk (by omega) (by omega) HG.out
  have hun : nums u.data.toList = seg (nums s.data.toList) p k := by rw [hu, hpk2]; exact nums_extract s p k hp
  have HU : Hid (u = s.extract p pk) := hu
  have HUG : Hid (good u) := hug
  have HUN : Hid (nums u.data.toList = seg (nums s.data.toList) p k) := hun
  have HUS : Hid (u.size = k) := husz
  clear hu hug hun husz hpk2
  go_enter Try.func40, Try.ntmps40
  go_wp2_with fail
  rw [← HU.out]
  refine (code_any u _ (by have := HUS.out; omega) HUG).mono ?_
  rintro e w1 ⟨h1, rfl⟩
  rcases h1 with ⟨h4, rfl⟩ | ⟨h4, rfl⟩
  · have HW : Hid (isW (nums s.data.toList) k p = true) := by
      show _ = _
      unfold isW
      rw [Bool.and_eq_true, List.all_eq_true]
      refine ⟨?_, fun m hm => ?_⟩
      · simp only [decide_eq_true_eq]
        have : (nums s.data.toList).length = s.size := by simp [nums]
        omega
      · have := h4 m (by rw [HUN.out]; exact hm)
        simpa using this
    have HT4 : Hid (∀ m ∈ nums u.data.toList, m < 4) := h4
    clear h4
    obtain ⟨t0, ht0⟩ : ∃ t0 : ByteArray, t0 = ⟨(turnL u.data.toList).toArray⟩ := ⟨_, rfl⟩
    have HTT : Hid (t0 = ⟨(turnL u.data.toList).toArray⟩) := ht0
    have HTG : Hid (good t0) := by rw [ht0]; exact list_good good_turnL
    have HTS : Hid (t0.size = k) := by
      show _ = _
      rw [ht0, size_mk, turnL_length]
      exact (Array.length_toList).trans HUS.out
    have HTC : Hid (codeL (nums t0.data.toList) = tcodeL (nums u.data.toList)) := by
      show _ = _
      rw [ht0]
      exact tcodeL_turn _ HT4.out
    have HTA : Hid (∀ m ∈ nums t0.data.toList, m < 4) := by
      rw [ht0]
      show ∀ m ∈ nums (turnL u.data.toList), m < 4
      rw [nums_turnL]
      intro m hm
      rw [List.mem_reverse, List.mem_map] at hm
      obtain ⟨x, hx, rfl⟩ := hm
      have := HT4.out x hx
      unfold comp
      split <;> omega
    clear ht0
    have hcb : codeL (nums u.data.toList) < 16777216 := by
      have h1 := codeL_lt _ HT4.out
      rw [show (nums u.data.toList).length = k by simp [nums]; exact HUS.out] at h1
      exact Nat.lt_of_lt_of_le h1 (pow_cases k hk1 hk2).1
    have htb : tcodeL (nums u.data.toList) < 16777216 := by
      have h1 := tcodeL_lt (nums u.data.toList)
      rw [show (nums u.data.toList).length = k by simp [nums]; exact HUS.out] at h1
      exact Nat.lt_of_lt_of_le h1 (pow_cases k hk1 hk2).1
    have HCW : Hid (candW (nums s.data.toList) k p = candOf k p (codeL (nums u.data.toList)) (tcodeL (nums u.data.toList))) := by
      show _ = _
      unfold candW
      rw [if_pos HW.out, HUN.out]
    obtain ⟨cc, hcc⟩ : ∃ cc, cc = codeL (nums u.data.toList) := ⟨_, rfl⟩
    obtain ⟨tc, htc⟩ : ∃ tc, tc = tcodeL (nums u.data.toList) := ⟨_, rfl⟩
    rw [← hcc] at hcb HCW
    rw [← htc] at htb HCW HTC
    rw [← hcc]
    clear hcc htc
    go_wp2_with fail
    refine (rturned_any u _ (by have := HUS.out; omega)).mono ?_
    rintro e w1' ⟨h2, rfl⟩
    obtain rfl : e = .returned (.tuple #[.string t0, .int .i64 0]) := by
      rcases h2 with ⟨_, h⟩ | ⟨h, _⟩
      · rw [h, HTT.out]
      · exact absurd HUG.out h
    clear h2
    go_wp2_with fail
    refine (code_any t0 _ (by have := HTS.out; omega) HTG).mono ?_
    rintro e w1'' ⟨h3, rfl⟩
    obtain rfl : e = .returned (.int .i64 (tc : Nat)) := by
      rcases h3 with ⟨_, h⟩ | ⟨h, _⟩
      · rw [h, HTC.out]
      · exact absurd HTA.out h
    clear h3
    by_cases hct : cc = tc
    · have HE : Hid (candW (nums s.data.toList) k p = none) := by
        show _ = _
        rw [HCW.out]
        unfold candOf
        rw [if_pos hct]
      have hq : ((cc : Int) == tc) = true := by simp [hct]
      clear hct
      go_wp2
      exact bodyPost_ret (v := .tuple #[.agg #[.int .i64 0, .int .i64 0, .bool false], .int .i64 1]) (by simp [results, Try.results40, go_sem]) rfl ⟨Or.inr (Or.inl ⟨HW.out, HE.out, rfl⟩), (Below.refl _ _).alloc (Nat.le_refl _) _⟩
    · have hq : ((cc : Int) == tc) = false := by rw [beq_eq_false_iff_ne]; omega
      have HE : Hid (candW (nums s.data.toList) k p = some (wordOf k p cc tc)) := by
        show _ = _
        rw [HCW.out]
        unfold candOf
        rw [if_neg hct]
      by_cases hlt : (tc : Int) < cc
      · have HX : Hid (wordOf k p cc tc = ⟨(hashN k tc : Nat), p, true⟩) := by
          show _ = _
          unfold wordOf
          rw [Nat.min_eq_right (by omega), decide_eq_true (by omega)]
        clear hct
        go_wp2_with fail
        refine (rhash_any tc k _ hk1 hk2 htb).mono ?_
        rintro e w1x ⟨rfl, rfl⟩
        go_wp2
        exact bodyPost_ret (v := .tuple #[.agg #[.int .i64 (hashN k tc : Nat), .int .i64 p, .bool true], .int .i64 2]) (by simp [results, Try.results40, go_sem]) rfl ⟨Or.inr (Or.inr ⟨_, HE.out, by rw [HX.out]⟩), (Below.refl _ _).alloc (Nat.le_refl _) _⟩
      · have HX : Hid (wordOf k p cc tc = ⟨(hashN k cc : Nat), p, false⟩) := by
          show _ = _
          unfold wordOf
          rw [Nat.min_eq_left (by omega), decide_eq_false (by omega)]
        have hgd : decide ((tc : Int) < cc) = false := decide_eq_false hlt
        have hgd2 : decide (tc < cc) = false := decide_eq_false (by omega)
        clear hct
        go_wp2_with fail
        refine (rhash_any cc k _ hk1 hk2 hcb).mono ?_
        rintro e w1x ⟨rfl, rfl⟩
        go_wp2
        exact bodyPost_ret (v := .tuple #[.agg #[.int .i64 (hashN k cc : Nat), .int .i64 p, .bool false], .int .i64 2]) (by simp [results, Try.results40, go_sem]) rfl ⟨Or.inr (Or.inr ⟨_, HE.out, by rw [HX.out]⟩), (Below.refl _ _).alloc (Nat.le_refl _) _⟩
  · have HW : Hid (isW (nums s.data.toList) k p = false) := by
      show _ = _
      rw [Bool.eq_false_iff]
      intro h
      apply h4
      rw [HUN.out]
      unfold isW at h
      rw [Bool.and_eq_true, List.all_eq_true] at h
      intro m hm
      simpa using h.2 m hm
    clear h4
    go_wp2
    exact bodyPost_ret (v := .tuple #[.agg #[.int .i64 0, .int .i64 0, .bool false], .int .i64 0]) (by simp [results, Try.results40, go_sem]) rfl ⟨Or.inl ⟨HW.out, rfl⟩, (Below.refl _ _).alloc (Nat.le_refl _) _⟩
end Go.Proofs.Ytilcmkiihefkkaa
