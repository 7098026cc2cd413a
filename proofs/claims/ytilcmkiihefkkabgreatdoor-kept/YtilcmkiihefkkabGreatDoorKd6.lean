import Derived.Test.YtilcmkiihefkkabGreatDoorJk25
import Derived.Test.YtilcmkiihefkkabGreatDoorKd4
import Derived.Test.YtilcmkiihefkkabGreatDoorKd5
section
set_option linter.unusedVariables false
set_option linter.unusedSimpArgs false
set_option maxRecDepth 100000
namespace Go.Proofs.YtilcmkiihefkkabGreatDoor.Mn
open Go.RowKit Go.Shelf Go.Lib
/-- the facts that Save and Load ask of an index -/
structure KpF (k W sc : Nat) (R : List S2) : Prop where
  k1 : 1 ≤ k
  k2 : k ≤ 12
  w1 : 1 ≤ W
  w2 : W ≤ 20
  s64 : sc < 18446744073709551616
  rl : R.length < 65536
  rq : ∀ x ∈ R, RfQ x ∧ x.b.size < 65536
  pw : R.Pairwise (fun x y => x.n ≠ y.n)
  op : optB k W sc = true
  re : refsE R = 0
theorem refsE_sum {R : List S2} (h : refsE R = 0) : sumN R R.length ≤ 4000 := by
  unfold refsE at h
  split at h
  · cases h
  · omega
theorem head_len (k W sc : Nat) (R : List S2) (hq : ∀ x ∈ R, x.n.size ≤ 255) (hl : R.length ≤ 65536) (hs : sumN R R.length ≤ 4000) : (headB k W sc R).length ≤ 500000000 := by
  have h1 := refs_len R hq
  have h2 : (optB8 k W sc).length = 10 := by unfold optB8; simp only [List.length_append, wrB_len]
  have h3 : (mark4 : List UInt8).length = 4 := rfl
  unfold headB
  rw [List.length_append, List.length_append, List.length_append, h2, h3, wrB_len]
  omega
theorem save_at {k W sc : Nat} {R : List S2} {base X : Nat} {w : World} (h : KpF k W sc R) (H : List Int) (hH : HsP (tabN k W R R.length) H) (hI : IxP w base X R k W sc) :
    Calls Tryz.prog 9 #[.pointer (some ⟨X, 0, none⟩)] w fun e w' => e = .returned (.string ⟨(saveB k W sc R H).toArray⟩) ∧ Below w.heap.size w w' := by
  have hs := refsE_sum h.re
  refine (Save_any R base X k W sc w h.k1 h.k2 h.w1 h.w2 h.s64 (fun x hx => ((h.rq x hx).1.facts).1) (by have := h.rl; omega) hs (head_len k W sc R (fun x hx => (h.rq x hx).1.2) (by have := h.rl; omega) hs) hI).mono ?_
  rintro e w' ⟨H', hH', rfl, hb⟩
  rw [hH'.uniq hH]
  exact ⟨rfl, hb⟩
theorem saveB_split (k W sc : Nat) (R : List S2) (H : List Int) : saveB k W sc R H = headB k W sc R ++ (wrB H.length 2 ++ entB (tabN k W R R.length) 0 H) := by
  unfold saveB; rw [List.append_assoc]
theorem load_same {k W sc : Nat} {R : List S2} (h : KpF k W sc R) (H : List Int) (hH : HsP (tabN k W R R.length) H) (s : ByteArray) (hs : s.data.toList = saveB k W sc R H) (hz : s.size ≤ 140737488355328) (w : World) :
    Calls Tryz.prog 10 #[.string s] w fun e w' => ∃ X, e = .returned (.tuple #[.pointer (some ⟨X, 0, none⟩), .int .i64 0]) ∧ Below w.heap.size w w' ∧ IxP w' w.heap.size X R k W sc := by
  refine (Load_any s w hz).mono ?_
  intro e w' hL
  rw [hs, saveB_split] at hL
  obtain ⟨hb, h'⟩ := load_head (by have := h.k2; omega) (by have := h.w2; omega) h.s64 h.rl h.rq h.pw h.op h.re hH hL
  rcases h' with ⟨_, X, he, hI⟩ | ⟨hne, _⟩
  · exact ⟨X, he, hb, hI⟩
  · exact absurd (saveB_split k W sc R H).symm hne
theorem load_other {k W sc : Nat} {R : List S2} (h : KpF k W sc R) (H : List Int) (hH : HsP (tabN k W R R.length) H) (s : ByteArray) (Y : List UInt8) (hs : s.data.toList = headB k W sc R ++ Y) (hne : headB k W sc R ++ Y ≠ saveB k W sc R H) (hz : s.size ≤ 140737488355328) (w : World) :
    Calls Tryz.prog 10 #[.string s] w fun e w' => e = .returned (.tuple #[.pointer none, .int .i64 8]) ∧ Below w.heap.size w w' := by
  refine (Load_any s w hz).mono ?_
  intro e w' hL
  rw [hs] at hL
  obtain ⟨hb, h'⟩ := load_head (by have := h.k2; omega) (by have := h.w2; omega) h.s64 h.rl h.rq h.pw h.op h.re hH hL
  rcases h' with ⟨he, _⟩ | ⟨_, he⟩
  · exact absurd he hne
  · exact ⟨he, hb⟩
/-- what was loaded is saved as it was -/
theorem load_any2 (s : ByteArray) (w : World) (hz : s.size ≤ 140737488355328) :
    Calls Tryz.prog 10 #[.string s] w fun e w' => Below w.heap.size w w' ∧ (e = .returned (.tuple #[.pointer none, .int .i64 8]) ∨ ∃ X, e = .returned (.tuple #[.pointer (some ⟨X, 0, none⟩), .int .i64 0]) ∧
      Calls Tryz.prog 9 #[.pointer (some ⟨X, 0, none⟩)] w' fun e2 w2 => e2 = .returned (.string s) ∧ Below w'.heap.size w' w2) := by
  refine (Load_any s w hz).mono ?_
  rintro e w' ⟨R, hR, hb, h⟩
  refine ⟨hb, ?_⟩
  rcases h with ⟨X, H, he, ho, hre, hH, hs, hI⟩ | ⟨he, _⟩
  · right
    refine ⟨X, he, ?_⟩
    obtain ⟨hq, hl⟩ := RdsP.all _ _ _ _ hR (fun x hx => by cases hx)
    have hl2 : R.length ≤ 65536 := by
      have := rd_small (s.data.toList.drop 14) 2 (by omega)
      simp only [List.length_nil, Nat.zero_add] at hl
      omega
    obtain ⟨⟨hk1, hk2⟩, ⟨hW1, hW2⟩⟩ := optB_facts ho
    have hsum := refsE_sum hre
    refine (Save_any R w.heap.size X _ _ _ w' hk1 hk2 hW1 hW2 (roS_lt _) (fun x hx => (hq x hx).facts.1) (by omega) hsum (head_len _ _ _ R (fun x hx => (hq x hx).2) hl2 hsum) hI).mono ?_
    rintro e2 w2 ⟨H', hH', rfl, hb2⟩
    rw [hH'.uniq hH, hs]
    exact ⟨rfl, hb2⟩
  · exact Or.inl he
/-- one letter more, one letter less -/
theorem save_long (k W sc : Nat) (R : List S2) (H : List Int) : 18 ≤ (saveB k W sc R H).length := by
  have h2 : (optB8 k W sc).length = 10 := by unfold optB8; simp only [List.length_append, wrB_len]
  have h3 : (mark4 : List UInt8).length = 4 := rfl
  unfold saveB headB
  simp only [List.length_append, h2, h3, wrB_len]
  omega
theorem rq_one (n : UInt8) (b : ByteArray) (hg : good b) (hb : b.size ≤ 200) (h1 : parseR ⟨(ofL n b).toArray⟩ = ([⟨⟨#[n]⟩, b⟩], 0, 0)) : RfQ ⟨⟨#[n]⟩, b⟩ ∧ b.size < 65536 := by
  refine ⟨⟨?_, show (1 : Nat) ≤ 255 by omega⟩, by omega⟩
  have e : rfT ⟨⟨#[n]⟩, b⟩ = ⟨(ofL n b).toArray⟩ := by
    unfold rfT
    apply ByteArray.ext
    simp [ofL]
  rw [e, h1]
theorem hs_len {k W sc : Nat} {R : List S2} (h : KpF k W sc R) (H : List Int) (hH : HsP (tabN k W R R.length) H) : H.length ≤ 16777216 := by
  have hb := tab_hash h.k1 h.k2 h.w1 R (fun x hx => ((h.rq x hx).1.facts).1)
  have hn : H.Nodup := hH.1.imp (fun hab he => by omega)
  have := len_sub H ((List.range 16777216).map (fun n : Nat => (n : Int))) hn (fun x hx => by
    have h1 := hb x ((hH.2 x).1 hx)
    rw [List.mem_map]
    exact ⟨x.toNat, by rw [List.mem_range]; omega, by omega⟩)
  rw [List.length_map, List.length_range] at this
  exact this
theorem save_size {k W sc : Nat} {R : List S2} (h : KpF k W sc R) (H : List Int) (hH : HsP (tabN k W R R.length) H) : (saveB k W sc R H).length ≤ 400000000000 := by
  have hs := refsE_sum h.re
  have h1 := head_len k W sc R (fun x hx => (h.rq x hx).1.2) (by have := h.rl; omega) hs
  have h2 := hs_len h H hH
  have hT := tabN_len h.k1 h.k2 h.w1 R (fun x hx => ((h.rq x hx).1.facts).1) R.length (Nat.le_refl _)
  have h3 := entB_len (tabN k W R R.length) (fun a => Nat.le_trans (hT a) hs) H 0
  have h4 := Nat.mul_le_mul_right 20000 h2
  unfold saveB
  rw [List.length_append, List.length_append, wrB_len]
  omega
theorem ba_size (s : ByteArray) : s.size = s.data.toList.length := rfl
/-- the bytes, and one letter more, and one less -/
theorem load_more {k W sc : Nat} {R : List S2} (h : KpF k W sc R) (H : List Int) (hH : HsP (tabN k W R R.length) H) (s : ByteArray) (hs : s.data.toList = saveB k W sc R H) (w : World) :
    Calls Tryz.prog 10 #[.string (s ++ ⟨#[120]⟩)] w fun e w' => e = .returned (.tuple #[.pointer none, .int .i64 8]) ∧ Below w.heap.size w w' := by
  have hl := save_size h H hH
  have e : (s ++ ⟨#[120]⟩).data.toList = headB k W sc R ++ (wrB H.length 2 ++ entB (tabN k W R R.length) 0 H ++ [120]) := by
    rw [ByteArray.data_append, Array.toList_append, hs, saveB_split, List.append_assoc]
  refine load_other h H hH _ _ e (fun he => ?_) ?_ w
  · have := congrArg List.length he
    rw [saveB_split] at this
    simp only [List.length_append, List.length_singleton] at this
    omega
  · rw [ba_size, e]
    rw [saveB_split] at hl
    simp only [List.length_append, List.length_singleton] at hl ⊢
    omega
theorem load_less {k W sc : Nat} {R : List S2} (h : KpF k W sc R) (H : List Int) (hH : HsP (tabN k W R R.length) H) (s : ByteArray) (hs : s.data.toList = saveB k W sc R H) (w : World) :
    Calls Tryz.prog 10 #[.string (s.extract 0 (s.size - 1))] w fun e w' => e = .returned (.tuple #[.pointer none, .int .i64 8]) ∧ Below w.heap.size w w' := by
  have hl := save_size h H hH
  obtain ⟨Y, hY⟩ : ∃ Y, Y = wrB H.length 2 ++ entB (tabN k W R R.length) 0 H := ⟨_, rfl⟩
  have hYl : 2 ≤ Y.length := by rw [hY, List.length_append, wrB_len]; omega
  have hsz : s.size = (headB k W sc R).length + Y.length := by rw [ba_size, hs, saveB_split, ← hY, List.length_append]
  have e : (s.extract 0 (s.size - 1)).data.toList = headB k W sc R ++ Y.take (Y.length - 1) := by
    rw [ByteArray.data_extract, Array.toList_extract, hs, saveB_split, ← hY]
    show List.take (s.size - 1 - 0) (List.drop 0 (headB k W sc R ++ Y)) = _
    rw [List.drop_zero, Nat.sub_zero, List.take_append, List.take_of_length_le (by omega), show s.size - 1 - (headB k W sc R).length = Y.length - 1 by omega]
  refine load_other h H hH _ _ e (fun he => ?_) ?_ w
  · have := congrArg List.length he
    rw [saveB_split, ← hY] at this
    simp only [List.length_append, List.length_take] at this
    omega
  · rw [ba_size, e]
    rw [saveB_split, ← hY] at hl
    simp only [List.length_append, List.length_take] at hl ⊢
    omega
/-- Map, twice -/
def MpK (R : List S2) (k W sc : Nat) (rc : ByteArray) (L : List FD) (w : World) (e : Ending) (w' : World) : Prop :=
  ∃ ao cp, e = .returned (.tuple #[.slice ao L.length cp, .int .i64 0, .int .i64 0]) ∧ Below w.heap.size w w' ∧ RdR w' 46 ao L.length (foundsC L)
theorem map_kept (R : List S2) (base X k W sc : Nat) (rc : ByteArray) (w : World) (hg : good rc) (hs : rc.size ≤ 200) (hF : KpF k W sc R) (hR : RefsOK R) (hI : IxP w base X R k W sc)
    (htab : Lib.TabBelow Tryz.prog w.heap.size w "internal/strconv.uint64pow10" .u64 Lib.pow10Tab) (hLt : LtP w) :
    Calls Tryz.prog 11 #[.pointer (some ⟨X, 0, none⟩), .string ⟨(ofL 114 rc).toArray⟩] w fun e w' => ∃ rs, rs.length = 1 ∧ FindsR R k W sc [⟨⟨#[114]⟩, rc⟩] rs ∧ MpK R k W sc rc (rs.filterMap id) w e w' := by
  have hp := parse_of 114 rc hg (by omega) (by decide) (by decide)
  have hsz : (⟨(ofL 114 rc).toArray⟩ : ByteArray).size ≤ 140737488351232 := by
    have e1 : (⟨(ofL 114 rc).toArray⟩ : ByteArray).size = (ofL 114 rc).length := by show (ofL 114 rc).toArray.size = _; simp
    have e2 := ofL_len 114 rc
    omega
  refine (Map_any R base X k W sc _ w hsz hF.k1 hF.k2 hF.w1 hF.w2 hR hI htab hLt).mono ?_
  rintro e w' ⟨v, rfl, hbM, _, h⟩
  rw [hp] at h ⊢
  obtain ⟨rs, hl, hFR, hO⟩ := h rfl
  obtain ⟨ao, cp, rfl⟩ := hO.form
  exact ⟨rs, hl, hFR, ao, cp, rfl, hbM, RdR.of hO⟩
theorem map_kept2 (R : List S2) (base X k W sc : Nat) (rc T : ByteArray) (hT : T = ⟨(ofL 114 rc).toArray⟩) (w : World) (hg : good rc) (hs : rc.size ≤ 200) (hF : KpF k W sc R) (hR : RefsOK R) (hI : IxP w base X R k W sc)
    (htab : Lib.TabBelow Tryz.prog w.heap.size w "internal/strconv.uint64pow10" .u64 Lib.pow10Tab) (hLt : LtP w) :
    Calls Tryz.prog 11 #[.pointer (some ⟨X, 0, none⟩), .string T] w fun e w' => ∃ rs, rs.length = 1 ∧ FindsR R k W sc [⟨⟨#[114]⟩, rc⟩] rs ∧ MpK R k W sc rc (rs.filterMap id) w e w' := by
  subst hT
  exact map_kept R base X k W sc rc w hg hs hF hR hI htab hLt
end Go.Proofs.YtilcmkiihefkkabGreatDoor.Mn
end
