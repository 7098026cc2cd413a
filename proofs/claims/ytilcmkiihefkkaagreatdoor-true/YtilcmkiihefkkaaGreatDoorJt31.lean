import Derived.Test.YtilcmkiihefkkaaGreatDoorJt1
import Derived.Test.YtilcmkiihefkkaaGreatDoorJt29
import Derived.Test.YtilcmkiihefkkaaGreatDoorJt30
section
set_option linter.unusedVariables false
set_option linter.unusedSimpArgs false
set_option maxRecDepth 100000
namespace Go.Proofs.YtilcmkiihefkkaaGreatDoor
open Go.RowKit Go.Shelf
theorem sR_cases (read ref : ByteArray) (i j : Nat) (hi : i < read.size) (hj : j < ref.size) :
    (read[i] = ref[j] ∧ read[i] ≠ 78 ∧ sR read ref i j = true ∧ uR read ref i j = 0) ∨ (read[i] ≠ ref[j] ∧ sR read ref i j = false ∧ uR read ref i j = 4) ∨ (read[i] = ref[j] ∧ read[i] = 78 ∧ sR read ref i j = false ∧ uR read ref i j = 4) := by
  have h1 := sR_eq read ref i j hi hj
  have h2 : uR read ref i j = if sR read ref i j = true then 0 else 4 := rfl
  by_cases ha : read[i] = ref[j]
  · by_cases hb : read[i] = 78
    · have : sR read ref i j = false := by rw [← h1]; unfold sB; simp [hb]
      exact Or.inr (Or.inr ⟨ha, hb, this, by rw [h2, this]; rfl⟩)
    · have : sR read ref i j = true := by rw [← h1]; unfold sB; exact decide_eq_true ⟨ha, hb⟩
      exact Or.inl ⟨ha, hb, this, by rw [h2, this]; rfl⟩
  · have : sR read ref i j = false := by rw [← h1]; unfold sB; simp [ha]
    exact Or.inr (Or.inl ⟨ha, this, by rw [h2, this]; rfl⟩)
def CoP (L : List Nat) (read ref : ByteArray) (w : World) (e : Ending) (w' : World) : Prop :=
  e = .returned (.tuple #[.int .i64 (cst (uR read ref) L.reverse read.size ref.size), .int .i64 (cntF (sR read ref) L (0, 0) : Nat), .bool true]) ∧ Below w.heap.size w w'
set_option maxHeartbeats 8000000 in
theorem lcost_any (L : List Nat) (read ref : ByteArray) (hL : ∀ x ∈ L, x ≤ 2) (hLl : L.length ≤ 1000) (hn : read.size ≤ 300) (hm : ref.size ≤ 600) (he : L.foldl stF (0, 0) = (read.size, ref.size)) (w : World) :
    Calls Tryz.prog 54 #[.string (lets L), .string read, .string ref] w (CoP L read ref w) := by
  obtain ⟨a, ha⟩ : ∃ a, a = lets L := ⟨_, rfl⟩
  have has : a.size = L.length := by rw [ha, lets_size]
  have HG : Hid (∀ t (h : t < a.size), a[t] = ltr (L.getD t 9)) := by subst ha; exact lets_get L
  have HS : Hid (a.size = L.length) := has
  have ha1 : a.size ≤ 1000 := by omega
  have HL : Hid (∀ x ∈ L, x ≤ 2) := hL
  have HE : Hid (L.foldl stF (0, 0) = (read.size, ref.size)) := he
  rw [← ha]
  clear ha has hL hLl he
  go_enter Tryz.func54, Tryz.ntmps54
  go_wp2_with fail
  go_loopw [9, 10, 11, 12, 13] (fun cv sv iv jv kv wx => ∃ (k i j : Nat) (c : Int) (s : Nat), k ≤ a.size ∧ cv = .int .i64 c ∧ sv = .int .i64 s ∧ iv = .int .i64 i ∧ jv = .int .i64 j ∧ kv = .int .i64 k ∧ St read ref L k i j c s ∧ Below w.heap.size w wx) (fun _ _ _ _ kv _ => a.size - (RowKit.intOf kv).toNat)
  case atStart => exact ⟨0, 0, 0, 0, 0, Nat.zero_le _, rfl, rfl, rfl, rfl, rfl, ⟨rfl, rfl, rfl⟩, Below.refl _ _⟩
  case round =>
    obtain ⟨k, i, j, c, s, hk, rfl, rfl, rfl, rfl, rfl, hst, hbel⟩ := hrel
    have HBL : Hid (Below w.heap.size w wr) := hbel
    have HST : Hid (St read ref L k i j c s) := hst
    have hbd := hst.bd (by rw [← HS.out]; exact hk)
    obtain ⟨hc0, hc1, hs1⟩ := hbd
    clear hst hbel
    by_cases hlt : k < a.size
    · have hkI : (k : Int) < a.size := by omega
      have hkL : k < L.length := by rw [← HS.out]; exact hlt
      have hin := HST.out.inn hkL HE.out
      have hg := HG.out k hlt
      obtain ⟨l, hl⟩ : ∃ l, l = L.getD k 9 := ⟨_, rfl⟩
      have hl2 : l ≤ 2 := by rw [hl]; exact HL.out _ (by simp [hkL])
      rw [← hl] at hg hin
      have HLK : Hid (L.getD k 9 = l) := hl.symm
      clear hl
      have hcw2 : IntKind.i64.wrap (c + 2) = c + 2 := by rw [IntKind.wrap_i64]; omega
      have hcw4 : IntKind.i64.wrap (c + 4) = c + 4 := by rw [IntKind.wrap_i64]; omega
      have hcw6 : IntKind.i64.wrap (c + 2 + 4) = c + 2 + 4 := by rw [IntKind.wrap_i64]; omega
      have hsw : IntKind.i64.wrap ((s : Int) + 1) = (s : Int) + 1 := by rw [IntKind.wrap_i64]; omega
      have hkw : IntKind.i64.wrap ((k : Int) + 1) = (k : Int) + 1 := by rw [IntKind.wrap_i64]; omega
      have hiw : IntKind.i64.wrap ((i : Int) + 1) = (i : Int) + 1 := by
        have : i ≤ read.size := by have := hin.1; unfold stF at this; simp only at this; split at this <;> omega
        rw [IntKind.wrap_i64]; omega
      have hjw : IntKind.i64.wrap ((j : Int) + 1) = (j : Int) + 1 := by
        have : j ≤ ref.size := by have := hin.2; unfold stF at this; simp only at this; split at this <;> omega
        rw [IntKind.wrap_i64]; omega
      rcases (show l = 0 ∨ l = 1 ∨ l = 2 by omega) with rfl | rfl | rfl
      · have hi : i < read.size := hin.1
        have hj : j < ref.size := hin.2
        have hiI : (i : Int) < read.size := by omega
        have hjI : (j : Int) < ref.size := by omega
        have hig : ¬ (i : Int) ≥ read.size := by omega
        have hjg : ¬ (j : Int) ≥ ref.size := by omega
        have hg2 : ((a[k].toNat : Int)) = 77 := by rw [hg]; rfl
        have hm' := HST.out.m hkL HLK.out
        clear hg hin
        rcases sR_cases read ref i j hi hj with ⟨h1, h2, h3, h4⟩ | ⟨h1, h3, h4⟩ | ⟨h1, h2, h3, h4⟩
        · rw [h3, h4] at hm'
          have HM : Hid (St read ref L (k + 1) (i + 1) (j + 1) (c + 0) (s + if true = true then 1 else 0)) := hm'
          have q1 : ((read[i].toNat : Int) == (ref[j].toNat : Int)) = true := by rw [h1]; simp
          have q2 : ((read[i].toNat : Int) == 78) = false := by rw [Bool.eq_false_iff]; intro h; exact h2 ((eqs read[i] 78 (by omega)).1 h)
          clear h1 h2 h3 h4 hm'
          go_upto_region 18 with fail
          refine wp_region_X 13 (fun _ => True) (by kernel_rfl) trivial (fun hH => ?_)
          refine wpZ 0 hH ?_
          refine wpZ 1 hH ?_
          refine wpZ 2 hH ?_
          refine wpZ 3 hH ?_
          refine wpZ 4 hH ?_
          refine wpZ 5 hH ?_
          refine wpZ 6 hH ?_
          refine wpZ 7 hH ?_
          refine wpZ 8 hH ?_
          refine wpZ 9 hH ?_
          refine wpZ 10 hH ?_
          refine wpZ 11 hH ?_
          refine wpZ 12 hH ?_
          refine wpAnyX_done (by kernel_rfl) ?_
          clear hH
          go_wp2_with fail
          go_roundw
          case rel => exact ⟨k + 1, i + 1, j + 1, c, s + 1, by omega, rfl, by go_num, by go_num, by go_num, by go_num, by have := HM.out; rw [Int.add_zero, if_pos rfl] at this; exact this, belDrewN HBL.out 1⟩
          case measure => simp [RowKit.intOf]; omega
        · rw [h3, h4] at hm'
          have HM : Hid (St read ref L (k + 1) (i + 1) (j + 1) (c + 4) (s + if false = true then 1 else 0)) := hm'
          have q1 : ((read[i].toNat : Int) == (ref[j].toNat : Int)) = false := by
            rw [beq_eq_false_iff_ne]; intro h; exact h1 (UInt8.toNat_inj.1 (by omega))
          clear h1 h3 h4 hm'
          go_upto_region 18 with fail
          refine wp_region_X 13 (fun _ => True) (by kernel_rfl) trivial (fun hH => ?_)
          refine wpZ 0 hH ?_
          refine wpZ 1 hH ?_
          refine wpZ 2 hH ?_
          refine wpZ 3 hH ?_
          refine wpZ 4 hH ?_
          refine wpZ 5 hH ?_
          refine wpZ 6 hH ?_
          refine wpZ 7 hH ?_
          refine wpAnyX_take (i := 8) (v := undef) rfl (by kernel_rfl) (by kernel_rfl) (by kernel_rfl) (by kernel_rfl) (fun _ _ _ h => h) (Or.inr ⟨by rfl, rfl⟩) hH ?_
          try simp only [Act.put, zA0, zZ0, zS0]
          refine wpAnyX_take (i := 9) (v := undef) rfl (by kernel_rfl) (by kernel_rfl) (by kernel_rfl) (by kernel_rfl) (fun _ _ _ h => h) (Or.inr ⟨by rfl, rfl⟩) hH ?_
          try simp only [Act.put, zA0, zZ0, zS0]
          refine wpAnyX_take (i := 10) (v := undef) rfl (by kernel_rfl) (by kernel_rfl) (by kernel_rfl) (by kernel_rfl) (fun _ _ _ h => h) (Or.inr ⟨by rfl, rfl⟩) hH ?_
          try simp only [Act.put, zA0, zZ0, zS0]
          refine wpAnyX_take (i := 11) (v := undef) rfl (by kernel_rfl) (by kernel_rfl) (by kernel_rfl) (by kernel_rfl) (fun _ _ _ h => h) (Or.inr ⟨by rfl, rfl⟩) hH ?_
          try simp only [Act.put, zA0, zZ0, zS0]
          refine wpZ 12 hH ?_
          refine wpAnyX_done (by kernel_rfl) ?_
          clear hH
          go_wp2_with fail
          go_roundw
          case rel => exact ⟨k + 1, i + 1, j + 1, c + 4, s, by omega, rfl, rfl, by go_num, by go_num, by go_num, HM.out, belDrewN HBL.out 1⟩
          case measure => simp [RowKit.intOf]; omega
        · rw [h3, h4] at hm'
          have HM : Hid (St read ref L (k + 1) (i + 1) (j + 1) (c + 4) (s + if false = true then 1 else 0)) := hm'
          have q1 : ((read[i].toNat : Int) == (ref[j].toNat : Int)) = true := by rw [h1]; simp
          have q2 : ((read[i].toNat : Int) == 78) = true := by rw [h2]; rfl
          clear h1 h2 h3 h4 hm'
          go_upto_region 18 with fail
          refine wp_region_X 13 (fun _ => True) (by kernel_rfl) trivial (fun hH => ?_)
          refine wpZ 0 hH ?_
          refine wpZ 1 hH ?_
          refine wpZ 2 hH ?_
          refine wpZ 3 hH ?_
          refine wpZ 4 hH ?_
          refine wpZ 5 hH ?_
          refine wpZ 6 hH ?_
          refine wpZ 7 hH ?_
          refine wpZ 8 hH ?_
          refine wpZ 9 hH ?_
          refine wpZ 10 hH ?_
          refine wpZ 11 hH ?_
          refine wpZ 12 hH ?_
          refine wpAnyX_done (by kernel_rfl) ?_
          clear hH
          go_wp2_with fail
          go_roundw
          case rel => exact ⟨k + 1, i + 1, j + 1, c + 4, s, by omega, rfl, rfl, by go_num, by go_num, by go_num, HM.out, belDrewN HBL.out 1⟩
          case measure => simp [RowKit.intOf]; omega
      · have hg2 : ((a[k].toNat : Int)) = 73 := by rw [hg]; rfl
        have hgp := HST.out.gap hkL 1 HLK.out (Or.inl rfl)
        clear hg hin
        by_cases hk0 : k = 0
        · rw [if_neg (show ¬ (k ≠ 0 ∧ L.getD (k - 1) 9 = 1) from fun h => h.1 hk0)] at hgp
          have HM : Hid (St read ref L (k + 1) (i + 1) (j) (c + 2 + 4) s) := hgp
          have q0 : ((k : Int) == 0) = true := by rw [hk0]; rfl
          clear hgp hk0
          go_upto_region 10 with fail
          refine wp_region_X 12 (fun _ => True) (by kernel_rfl) trivial (fun hH => ?_)
          refine wpZ 0 hH ?_
          refine wpZ 1 hH ?_
          refine wpZ 2 hH ?_
          refine wpAnyX_take (i := 3) (v := undef) rfl (by kernel_rfl) (by kernel_rfl) (by kernel_rfl) (by kernel_rfl) (fun _ _ _ h => h) (Or.inr ⟨by rfl, rfl⟩) hH ?_
          try simp only [Act.put, zA0, zZ0, zS0]
          refine wpAnyX_take (i := 4) (v := undef) rfl (by kernel_rfl) (by kernel_rfl) (by kernel_rfl) (by kernel_rfl) (fun _ _ _ h => h) (Or.inr ⟨by rfl, rfl⟩) hH ?_
          try simp only [Act.put, zA0, zZ0, zS0]
          refine wpAnyX_take (i := 5) (v := undef) rfl (by kernel_rfl) (by kernel_rfl) (by kernel_rfl) (by kernel_rfl) (fun _ _ _ h => h) (Or.inr ⟨by rfl, rfl⟩) hH ?_
          try simp only [Act.put, zA0, zZ0, zS0]
          refine wpAnyX_take (i := 6) (v := undef) rfl (by kernel_rfl) (by kernel_rfl) (by kernel_rfl) (by kernel_rfl) (fun _ _ _ h => h) (Or.inr ⟨by rfl, rfl⟩) hH ?_
          try simp only [Act.put, zA0, zZ0, zS0]
          refine wpAnyX_take (i := 7) (v := undef) rfl (by kernel_rfl) (by kernel_rfl) (by kernel_rfl) (by kernel_rfl) (fun _ _ _ h => h) (Or.inr ⟨by rfl, rfl⟩) hH ?_
          try simp only [Act.put, zA0, zZ0, zS0]
          refine wpAnyX_take (i := 8) (v := undef) rfl (by kernel_rfl) (by kernel_rfl) (by kernel_rfl) (by kernel_rfl) (fun _ _ _ h => h) (Or.inr ⟨by rfl, rfl⟩) hH ?_
          try simp only [Act.put, zA0, zZ0, zS0]
          refine wpAnyX_take (i := 9) (v := undef) rfl (by kernel_rfl) (by kernel_rfl) (by kernel_rfl) (by kernel_rfl) (fun _ _ _ h => h) (Or.inr ⟨by rfl, rfl⟩) hH ?_
          try simp only [Act.put, zA0, zZ0, zS0]
          refine wpAnyX_take (i := 10) (v := undef) rfl (by kernel_rfl) (by kernel_rfl) (by kernel_rfl) (by kernel_rfl) (fun _ _ _ h => h) (Or.inr ⟨by rfl, rfl⟩) hH ?_
          try simp only [Act.put, zA0, zZ0, zS0]
          refine wpZ 11 hH ?_
          refine wpAnyX_done (by kernel_rfl) ?_
          clear hH
          go_wp2_with fail
          go_roundw
          case rel => exact ⟨_, i + 1, j, c + 2 + 4, s, by omega, rfl, rfl, by go_num, rfl, by go_num, HM.out, belDrewN HBL.out 1⟩
          case measure => simp [RowKit.intOf]; omega
        · obtain ⟨k1, hk1⟩ : ∃ k1, k1 = k - 1 := ⟨_, rfl⟩
          have hk2 : k1 < a.size := by omega
          have hg1 := HG.out k1 hk2
          obtain ⟨p, hp⟩ : ∃ p, p = L.getD k1 9 := ⟨_, rfl⟩
          have hk3 : k1 < L.length := by omega
          have hp2 : p ≤ 2 := by rw [hp]; exact HL.out _ (by simp [hk3])
          rw [← hk1, ← hp] at hgp
          rw [← hp] at hg1
          have hw1 : IntKind.i64.wrap ((k : Int) - 1) = (k1 : Int) := by rw [IntKind.wrap_i64]; omega
          have q0 : ((k : Int) == 0) = false := by rw [beq_eq_false_iff_ne]; omega
          have hkne : k ≠ 0 := hk0
          clear hk1 hp hk0 hk3
          rcases (show p = 0 ∨ p = 1 ∨ p = 2 by omega) with rfl | rfl | rfl
          · rw [if_neg (show ¬ (k ≠ 0 ∧ 0 = 1) from fun h => by omega)] at hgp
            have HM : Hid (St read ref L (k + 1) (i + 1) (j) (c + 2 + 4) s) := hgp
            have hg3 : ((a[k1].toNat : Int)) = 77 := by rw [hg1]; rfl
            clear hgp hg1 hkne
            go_upto_region 10 with fail
            refine wp_region_X 12 (fun _ => True) (by kernel_rfl) trivial (fun hH => ?_)
            refine wpZ 0 hH ?_
            refine wpZ 1 hH ?_
            refine wpZ 2 hH ?_
            refine wpZ 3 hH ?_
            refine wpZ 4 hH ?_
            refine wpZ 5 hH ?_
            refine wpZ 6 hH ?_
            refine wpZ 7 hH ?_
            refine wpZ 8 hH ?_
            refine wpZ 9 hH ?_
            refine wpZ 10 hH ?_
            refine wpZ 11 hH ?_
            refine wpAnyX_done (by kernel_rfl) ?_
            clear hH
            go_wp2_with fail
            go_roundw
            case rel => exact ⟨_, i + 1, j, c + 2 + 4, s, by omega, rfl, rfl, by go_num, rfl, by go_num, HM.out, belDrewN HBL.out 1⟩
            case measure => simp [RowKit.intOf]; omega
          · rw [if_pos (show k ≠ 0 ∧ 1 = 1 from ⟨hkne, rfl⟩), Int.add_zero] at hgp
            have HM : Hid (St read ref L (k + 1) (i + 1) (j) (c + 2) s) := hgp
            have hg3 : ((a[k1].toNat : Int)) = 73 := by rw [hg1]; rfl
            clear hgp hg1 hkne
            go_upto_region 10 with fail
            refine wp_region_X 12 (fun _ => True) (by kernel_rfl) trivial (fun hH => ?_)
            refine wpZ 0 hH ?_
            refine wpZ 1 hH ?_
            refine wpZ 2 hH ?_
            refine wpZ 3 hH ?_
            refine wpZ 4 hH ?_
            refine wpZ 5 hH ?_
            refine wpZ 6 hH ?_
            refine wpZ 7 hH ?_
            refine wpZ 8 hH ?_
            refine wpZ 9 hH ?_
            refine wpZ 10 hH ?_
            refine wpZ 11 hH ?_
            refine wpAnyX_done (by kernel_rfl) ?_
            clear hH
            go_wp2_with fail
            go_roundw
            case rel => exact ⟨_, i + 1, j, c + 2, s, by omega, rfl, rfl, by go_num, rfl, by go_num, HM.out, belDrewN HBL.out 1⟩
            case measure => simp [RowKit.intOf]; omega
          · rw [if_neg (show ¬ (k ≠ 0 ∧ 2 = 1) from fun h => by omega)] at hgp
            have HM : Hid (St read ref L (k + 1) (i + 1) (j) (c + 2 + 4) s) := hgp
            have hg3 : ((a[k1].toNat : Int)) = 68 := by rw [hg1]; rfl
            clear hgp hg1 hkne
            go_upto_region 10 with fail
            refine wp_region_X 12 (fun _ => True) (by kernel_rfl) trivial (fun hH => ?_)
            refine wpZ 0 hH ?_
            refine wpZ 1 hH ?_
            refine wpZ 2 hH ?_
            refine wpZ 3 hH ?_
            refine wpZ 4 hH ?_
            refine wpZ 5 hH ?_
            refine wpZ 6 hH ?_
            refine wpZ 7 hH ?_
            refine wpZ 8 hH ?_
            refine wpZ 9 hH ?_
            refine wpZ 10 hH ?_
            refine wpZ 11 hH ?_
            refine wpAnyX_done (by kernel_rfl) ?_
            clear hH
            go_wp2_with fail
            go_roundw
            case rel => exact ⟨_, i + 1, j, c + 2 + 4, s, by omega, rfl, rfl, by go_num, rfl, by go_num, HM.out, belDrewN HBL.out 1⟩
            case measure => simp [RowKit.intOf]; omega
      · have hg2 : ((a[k].toNat : Int)) = 68 := by rw [hg]; rfl
        have hgp := HST.out.gap hkL 2 HLK.out (Or.inr rfl)
        clear hg hin
        by_cases hk0 : k = 0
        · rw [if_neg (show ¬ (k ≠ 0 ∧ L.getD (k - 1) 9 = 2) from fun h => h.1 hk0)] at hgp
          have HM : Hid (St read ref L (k + 1) (i) (j + 1) (c + 2 + 4) s) := hgp
          have q0 : ((k : Int) == 0) = true := by rw [hk0]; rfl
          clear hgp hk0
          go_upto_region 10 with fail
          refine wp_region_X 12 (fun _ => True) (by kernel_rfl) trivial (fun hH => ?_)
          refine wpZ 0 hH ?_
          refine wpZ 1 hH ?_
          refine wpZ 2 hH ?_
          refine wpAnyX_take (i := 3) (v := undef) rfl (by kernel_rfl) (by kernel_rfl) (by kernel_rfl) (by kernel_rfl) (fun _ _ _ h => h) (Or.inr ⟨by rfl, rfl⟩) hH ?_
          try simp only [Act.put, zA0, zZ0, zS0]
          refine wpAnyX_take (i := 4) (v := undef) rfl (by kernel_rfl) (by kernel_rfl) (by kernel_rfl) (by kernel_rfl) (fun _ _ _ h => h) (Or.inr ⟨by rfl, rfl⟩) hH ?_
          try simp only [Act.put, zA0, zZ0, zS0]
          refine wpAnyX_take (i := 5) (v := undef) rfl (by kernel_rfl) (by kernel_rfl) (by kernel_rfl) (by kernel_rfl) (fun _ _ _ h => h) (Or.inr ⟨by rfl, rfl⟩) hH ?_
          try simp only [Act.put, zA0, zZ0, zS0]
          refine wpAnyX_take (i := 6) (v := undef) rfl (by kernel_rfl) (by kernel_rfl) (by kernel_rfl) (by kernel_rfl) (fun _ _ _ h => h) (Or.inr ⟨by rfl, rfl⟩) hH ?_
          try simp only [Act.put, zA0, zZ0, zS0]
          refine wpAnyX_take (i := 7) (v := undef) rfl (by kernel_rfl) (by kernel_rfl) (by kernel_rfl) (by kernel_rfl) (fun _ _ _ h => h) (Or.inr ⟨by rfl, rfl⟩) hH ?_
          try simp only [Act.put, zA0, zZ0, zS0]
          refine wpAnyX_take (i := 8) (v := undef) rfl (by kernel_rfl) (by kernel_rfl) (by kernel_rfl) (by kernel_rfl) (fun _ _ _ h => h) (Or.inr ⟨by rfl, rfl⟩) hH ?_
          try simp only [Act.put, zA0, zZ0, zS0]
          refine wpAnyX_take (i := 9) (v := undef) rfl (by kernel_rfl) (by kernel_rfl) (by kernel_rfl) (by kernel_rfl) (fun _ _ _ h => h) (Or.inr ⟨by rfl, rfl⟩) hH ?_
          try simp only [Act.put, zA0, zZ0, zS0]
          refine wpAnyX_take (i := 10) (v := undef) rfl (by kernel_rfl) (by kernel_rfl) (by kernel_rfl) (by kernel_rfl) (fun _ _ _ h => h) (Or.inr ⟨by rfl, rfl⟩) hH ?_
          try simp only [Act.put, zA0, zZ0, zS0]
          refine wpZ 11 hH ?_
          refine wpAnyX_done (by kernel_rfl) ?_
          clear hH
          go_wp2_with fail
          go_roundw
          case rel => exact ⟨_, i, j + 1, c + 2 + 4, s, by omega, rfl, rfl, rfl, by go_num, by go_num, HM.out, belDrewN HBL.out 1⟩
          case measure => simp [RowKit.intOf]; omega
        · obtain ⟨k1, hk1⟩ : ∃ k1, k1 = k - 1 := ⟨_, rfl⟩
          have hk2 : k1 < a.size := by omega
          have hg1 := HG.out k1 hk2
          obtain ⟨p, hp⟩ : ∃ p, p = L.getD k1 9 := ⟨_, rfl⟩
          have hk3 : k1 < L.length := by omega
          have hp2 : p ≤ 2 := by rw [hp]; exact HL.out _ (by simp [hk3])
          rw [← hk1, ← hp] at hgp
          rw [← hp] at hg1
          have hw1 : IntKind.i64.wrap ((k : Int) - 1) = (k1 : Int) := by rw [IntKind.wrap_i64]; omega
          have q0 : ((k : Int) == 0) = false := by rw [beq_eq_false_iff_ne]; omega
          have hkne : k ≠ 0 := hk0
          clear hk1 hp hk0 hk3
          rcases (show p = 0 ∨ p = 1 ∨ p = 2 by omega) with rfl | rfl | rfl
          · rw [if_neg (show ¬ (k ≠ 0 ∧ 0 = 2) from fun h => by omega)] at hgp
            have HM : Hid (St read ref L (k + 1) (i) (j + 1) (c + 2 + 4) s) := hgp
            have hg3 : ((a[k1].toNat : Int)) = 77 := by rw [hg1]; rfl
            clear hgp hg1 hkne
            go_upto_region 10 with fail
            refine wp_region_X 12 (fun _ => True) (by kernel_rfl) trivial (fun hH => ?_)
            refine wpZ 0 hH ?_
            refine wpZ 1 hH ?_
            refine wpZ 2 hH ?_
            refine wpZ 3 hH ?_
            refine wpZ 4 hH ?_
            refine wpZ 5 hH ?_
            refine wpZ 6 hH ?_
            refine wpZ 7 hH ?_
            refine wpZ 8 hH ?_
            refine wpZ 9 hH ?_
            refine wpZ 10 hH ?_
            refine wpZ 11 hH ?_
            refine wpAnyX_done (by kernel_rfl) ?_
            clear hH
            go_wp2_with fail
            go_roundw
            case rel => exact ⟨_, i, j + 1, c + 2 + 4, s, by omega, rfl, rfl, rfl, by go_num, by go_num, HM.out, belDrewN HBL.out 1⟩
            case measure => simp [RowKit.intOf]; omega
          · rw [if_neg (show ¬ (k ≠ 0 ∧ 1 = 2) from fun h => by omega)] at hgp
            have HM : Hid (St read ref L (k + 1) (i) (j + 1) (c + 2 + 4) s) := hgp
            have hg3 : ((a[k1].toNat : Int)) = 73 := by rw [hg1]; rfl
            clear hgp hg1 hkne
            go_upto_region 10 with fail
            refine wp_region_X 12 (fun _ => True) (by kernel_rfl) trivial (fun hH => ?_)
            refine wpZ 0 hH ?_
            refine wpZ 1 hH ?_
            refine wpZ 2 hH ?_
            refine wpZ 3 hH ?_
            refine wpZ 4 hH ?_
            refine wpZ 5 hH ?_
            refine wpZ 6 hH ?_
            refine wpZ 7 hH ?_
            refine wpZ 8 hH ?_
            refine wpZ 9 hH ?_
            refine wpZ 10 hH ?_
            refine wpZ 11 hH ?_
            refine wpAnyX_done (by kernel_rfl) ?_
            clear hH
            go_wp2_with fail
            go_roundw
            case rel => exact ⟨_, i, j + 1, c + 2 + 4, s, by omega, rfl, rfl, rfl, by go_num, by go_num, HM.out, belDrewN HBL.out 1⟩
            case measure => simp [RowKit.intOf]; omega
          · rw [if_pos (show k ≠ 0 ∧ 2 = 2 from ⟨hkne, rfl⟩), Int.add_zero] at hgp
            have HM : Hid (St read ref L (k + 1) (i) (j + 1) (c + 2) s) := hgp
            have hg3 : ((a[k1].toNat : Int)) = 68 := by rw [hg1]; rfl
            clear hgp hg1 hkne
            go_upto_region 10 with fail
            refine wp_region_X 12 (fun _ => True) (by kernel_rfl) trivial (fun hH => ?_)
            refine wpZ 0 hH ?_
            refine wpZ 1 hH ?_
            refine wpZ 2 hH ?_
            refine wpZ 3 hH ?_
            refine wpZ 4 hH ?_
            refine wpZ 5 hH ?_
            refine wpZ 6 hH ?_
            refine wpZ 7 hH ?_
            refine wpZ 8 hH ?_
            refine wpZ 9 hH ?_
            refine wpZ 10 hH ?_
            refine wpZ 11 hH ?_
            refine wpAnyX_done (by kernel_rfl) ?_
            clear hH
            go_wp2_with fail
            go_roundw
            case rel => exact ⟨_, i, j + 1, c + 2, s, by omega, rfl, rfl, rfl, by go_num, by go_num, HM.out, belDrewN HBL.out 1⟩
            case measure => simp [RowKit.intOf]; omega
    · have hke : k = a.size := by omega
      have hkI : ¬ (k : Int) < a.size := by omega
      have hst := HST.out
      rw [hke, HS.out] at hst
      obtain ⟨e1, e2, e3, e4⟩ := hst.end_ HE.out
      have HE3 : Hid (c = cst (uR read ref) L.reverse read.size ref.size) := e3
      have HE4 : Hid (s = cntF (sR read ref) L (0, 0)) := e4
      clear hst e3 e4 HST hke
      subst e1
      subst e2
      go_wp2_with fail
      go_ret3
      refine ⟨?_, HBL.out⟩
      rw [← HE3.out, ← HE4.out]
      simp
end Go.Proofs.YtilcmkiihefkkaaGreatDoor
end
section
set_option linter.unusedVariables false
set_option linter.unusedSimpArgs false
set_option maxRecDepth 100000
namespace Go.Proofs.YtilcmkiihefkkaaGreatDoor
open Go.RowKit Go.Shelf
/-- where letters stands: what is out, the number under way, the last letter (9: none) -/
structure LS where
  o : List Nat
  n : Nat
  la : Nat
def lstep (st : LS) (c : UInt8) : Option LS :=
  if 48 ≤ c.toNat ∧ c.toNat ≤ 57 then
    (if 10 * st.n + (c.toNat - 48) = 0 ∨ 1000 < 10 * st.n + (c.toNat - 48) then none else some ⟨st.o, 10 * st.n + (c.toNat - 48), st.la⟩)
  else if st.n = 0 then none
  else if c = 77 ∧ st.la ≠ 0 then some ⟨st.o ++ List.replicate st.n 0, 0, 0⟩
  else if c = 73 ∧ st.la ≠ 1 then some ⟨st.o ++ List.replicate st.n 1, 0, 1⟩
  else if c = 68 ∧ st.la ≠ 2 then some ⟨st.o ++ List.replicate st.n 2, 0, 2⟩
  else none
def pst : List UInt8 → LS → Option LS
  | [], st => some st
  | c :: t, st => (lstep st c).bind (pst t)
theorem pst_append : ∀ (a b : List UInt8) (st : LS), pst (a ++ b) st = (pst a st).bind (pst b)
  | [], b, st => rfl
  | c :: a, b, st => by
    show (lstep st c).bind (pst (a ++ b)) = ((lstep st c).bind (pst a)).bind (pst b)
    cases h : lstep st c with
    | none => rfl
    | some s => exact pst_append a b s
theorem lstep_cases (st st' : LS) (c : UInt8) (h : lstep st c = some st') :
    (∃ d, d ≤ 9 ∧ c.toNat = 48 + d ∧ 0 < 10 * st.n + d ∧ 10 * st.n + d ≤ 1000 ∧ st' = ⟨st.o, 10 * st.n + d, st.la⟩) ∨
    (∃ l, l ≤ 2 ∧ c = ltr l ∧ 0 < st.n ∧ st.la ≠ l ∧ st' = ⟨st.o ++ List.replicate st.n l, 0, l⟩) := by
  unfold lstep at h
  split at h
  · rename_i hd
    split at h
    · cases h
    · rename_i hb
      left
      refine ⟨c.toNat - 48, by omega, by omega, by omega, by omega, ?_⟩
      simpa using h.symm
  · split at h
    · cases h
    · right
      split at h
      · rename_i hn hc
        exact ⟨0, by omega, hc.1, by omega, hc.2, by simpa using h.symm⟩
      · split at h
        · rename_i hn _ hc
          exact ⟨1, by omega, hc.1, by omega, hc.2, by simpa using h.symm⟩
        · split at h
          · rename_i hn _ _ hc
            exact ⟨2, by omega, hc.1, by omega, hc.2, by simpa using h.symm⟩
          · cases h
theorem lstep_digit (o : List Nat) (n la d : Nat) (hd : d ≤ 9) (h1 : 0 < 10 * n + d) (h2 : 10 * n + d ≤ 1000) : lstep ⟨o, n, la⟩ (UInt8.ofNat (48 + d)) = some ⟨o, 10 * n + d, la⟩ := by
  have e : (UInt8.ofNat (48 + d)).toNat = 48 + d := by rw [UInt8.toNat_ofNat']; omega
  unfold lstep
  rw [e, if_pos (by omega)]
  simp only
  rw [if_neg (by omega), show 48 + d - 48 = d by omega]
theorem lstep_letter (o : List Nat) (n la l : Nat) (hl : l ≤ 2) (hn : 0 < n) (h : la ≠ l) : lstep ⟨o, n, la⟩ (ltr l) = some ⟨o ++ List.replicate n l, 0, l⟩ := by
  unfold lstep
  rcases (show l = 0 ∨ l = 1 ∨ l = 2 by omega) with rfl | rfl | rfl
  · rw [if_neg (by decide), if_neg (by simp only; omega), if_pos ⟨rfl, h⟩]
  · rw [if_neg (by decide), if_neg (by simp only; omega), if_neg (fun h => absurd h.1 (by decide)), if_pos ⟨rfl, h⟩]
  · rw [if_neg (by decide), if_neg (by simp only; omega), if_neg (fun h => absurd h.1 (by decide)), if_neg (fun h => absurd h.1 (by decide)), if_pos ⟨rfl, h⟩]
theorem pst_digits (f : Nat) : ∀ (u : Nat) (o : List Nat) (la : Nat), u ≤ f → 0 < u → u ≤ 1000 → pst (Lib.decDigits u) ⟨o, 0, la⟩ = some ⟨o, u, la⟩ := by
  induction f with
  | zero => intro u o la h1 h2; omega
  | succ f ih =>
    intro u o la h1 h2 h3
    by_cases h : u < 10
    · rw [Lib.decDigits, dif_pos h]
      have := lstep_digit o 0 la u (by omega) (by omega) (by omega)
      show (lstep _ _).bind (pst []) = _
      rw [this]
      simp [pst]
    · rw [Lib.decDigits, dif_neg h, pst_append, ih (u / 10) o la (by omega) (by omega) (by omega)]
      have := lstep_digit o (u / 10) la (u % 10) (by omega) (by omega) (by omega)
      show (lstep _ _).bind (pst []) = _
      rw [this]
      simp [pst]
      omega
theorem pst_run (o : List Nat) (la : Nat) (p : Nat × Nat) (h1 : 0 < p.1) (h2 : p.1 ≤ 1000) (h3 : p.2 ≤ 2) (h4 : la ≠ p.2) : pst (Lib.decDigits p.1 ++ [ltr p.2]) ⟨o, 0, la⟩ = some ⟨o ++ List.replicate p.1 p.2, 0, p.2⟩ := by
  rw [pst_append, pst_digits p.1 p.1 o la (Nat.le_refl _) h1 h2]
  show (lstep _ _).bind (pst []) = _
  rw [lstep_letter o p.1 la p.2 h3 h1 h4]
  rfl
theorem take_rep (L : List Nat) (a l : Nat) : ∀ n, a + n ≤ L.length → (∀ t, a ≤ t → t < a + n → L.getD t 9 = l) → L.take (a + n) = L.take a ++ List.replicate n l
  | 0, _, _ => by simp
  | n + 1, h, hl => by
    have ih := take_rep L a l n (by omega) (fun t h1 h2 => hl t h1 (by omega))
    rw [show a + (n + 1) = (a + n) + 1 by omega, take_app L (a + n) (by omega), ih, hl (a + n) (by omega) (by omega), List.replicate_succ', List.append_assoc]
/-- the runs, read again -/
theorem rl_pst (L : List Nat) (hL : ∀ x ∈ L, x ≤ 2) (hl : L.length ≤ 1000) : ∀ k, k ≤ L.length →
    pst (rtxt (rl L k).2) ⟨[], 0, 9⟩ = some ⟨L.take (rl L k).1, 0, if (rl L k).1 = 0 then 9 else L.getD ((rl L k).1 - 1) 9⟩ ∧ (0 < (rl L k).1 → (rl L k).1 < L.length → L.getD ((rl L k).1 - 1) 9 ≠ L.getD (rl L k).1 9)
  | 0, _ => by
    refine ⟨rfl, fun h => ?_⟩
    simp [rl] at h
  | k + 1, hk => by
    obtain ⟨ih1, ih2⟩ := rl_pst L hL hl k (by omega)
    have hf := rl_from L k
    have e : rl L (k + 1) = if k + 1 = L.length ∨ L.getD (k + 1) 9 ≠ L.getD k 9 then (k + 1, (rl L k).2 ++ [(k + 1 - (rl L k).1, L.getD k 9)]) else rl L k := rfl
    by_cases hc : k + 1 = L.length ∨ L.getD (k + 1) 9 ≠ L.getD k 9
    · rw [e, if_pos hc]
      have hke : L.getD k 9 = L.getD (rl L k).1 9 := hf.2 (by omega) k hf.1 (Nat.le_refl _)
      refine ⟨?_, fun h1 h2 => ?_⟩
      · rw [rtxt_append, pst_append, ih1]
        have hkl : k < L.length := by omega
        have hk2 : L.getD k 9 ≤ 2 := hL _ (by simp [hkl])
        have := pst_run (L.take (rl L k).1) (if (rl L k).1 = 0 then 9 else L.getD ((rl L k).1 - 1) 9) (k + 1 - (rl L k).1, L.getD k 9) (by simp only; have := hf.1; omega) (by simp only; omega) hk2 (by
          simp only
          split
          · omega
          · rw [hke]; exact ih2 (by omega) (by have := hf.1; omega))
        show pst _ _ = _
        rw [this]
        have t := take_rep L (rl L k).1 (L.getD k 9) (k + 1 - (rl L k).1) (by have := hf.1; omega) (fun t h1 h2 => by rw [hke]; exact hf.2 (by omega) t h1 (by omega))
        rw [show (rl L k).1 + (k + 1 - (rl L k).1) = k + 1 by have := hf.1; omega] at t
        simp [t]
      · simp only at h1 h2 ⊢
        rcases hc with h | h
        · omega
        · rw [Nat.add_sub_cancel]; exact fun h' => h h'.symm
    · rw [e, if_neg hc]
      exact ⟨ih1, ih2⟩
theorem rl_whole (L : List Nat) : (rl L L.length).1 = L.length := by
  cases h : L.length with
  | zero => rfl
  | succ k =>
    show (if k + 1 = L.length ∨ L.getD (k + 1) 9 ≠ L.getD k 9 then (k + 1, (rl L k).2 ++ [(k + 1 - (rl L k).1, L.getD k 9)]) else rl L k).1 = _
    rw [if_pos (Or.inl h.symm)]
theorem rtxt_pst (L : List Nat) (hL : ∀ x ∈ L, x ≤ 2) (hl : L.length ≤ 1000) : ∃ la, pst (rtxt (rl L L.length).2) ⟨[], 0, 9⟩ = some ⟨L, 0, la⟩ := by
  have h := (rl_pst L hL hl L.length (Nat.le_refl _)).1
  rw [rl_whole, List.take_length] at h
  exact ⟨_, h⟩
end Go.Proofs.YtilcmkiihefkkaaGreatDoor
end
section
set_option linter.unusedVariables false
set_option linter.unusedSimpArgs false
set_option maxRecDepth 100000
namespace Go.Proofs.YtilcmkiihefkkaaGreatDoor
theorem jn_nonneg (x : Nat) (t : List Nat) : 0 ≤ jn x t := by unfold jn; split <;> omega
theorem cst_nonneg (u : Nat → Nat → Int) (hu : ∀ i j, 0 ≤ u i j) : ∀ (t : List Nat) (i j : Nat), 0 ≤ cst u t i j
  | [], _, _ => by simp [cst]
  | l :: t, i, j => by
    unfold cst
    have h1 := cst_nonneg u hu t (if l = 2 then i else i - 1) (if l = 1 then j else j - 1)
    have h2 := jn_nonneg l t
    have h3 := hu (i - 1) (j - 1)
    split <;> omega
/-- letters that cost nothing are pairs alike -/
theorem cst_zero (u : Nat → Nat → Int) (s : Nat → Nat → Bool) (hu : ∀ i j, 0 ≤ u i j) : ∀ (t : List Nat) (i j : Nat), ends t i j → (∀ a b, a < i → b < j → u a b = 0 → s a b = true) → cst u t i j ≤ 0 → cntB s t i j = t.length ∧ t.length = i ∧ i = j
  | [], i, j, h, _, _ => ⟨rfl, h.1.symm, by rw [h.1, h.2]⟩
  | l :: t, i, j, h, hs, hc => by
    obtain ⟨h1, h2, h3, h4⟩ := h
    unfold cst at hc
    have e1 := cst_nonneg u hu t (if l = 2 then i else i - 1) (if l = 1 then j else j - 1)
    have e2 := jn_nonneg l t
    have e3 := hu (i - 1) (j - 1)
    have hl : l = 0 := by
      rcases Nat.eq_zero_or_pos l with h | h
      · exact h
      · exfalso
        rw [if_neg (by omega)] at hc
        omega
    subst hl
    have i0 := h2 (by decide)
    have j0 := h3 (by decide)
    simp only [if_true, show (0 : Nat) ≠ 2 by decide, show (0 : Nat) ≠ 1 by decide, if_false] at hc e1 h4
    obtain ⟨r1, r2, r3⟩ := cst_zero u s hu t (i - 1) (j - 1) h4 (fun a b ha hb => hs a b (by omega) (by omega)) (by omega)
    have hu0 : u (i - 1) (j - 1) = 0 := by omega
    have hs0 := hs (i - 1) (j - 1) (by omega) (by omega) hu0
    refine ⟨?_, by simp only [List.length_cons]; omega, by omega⟩
    unfold cntB
    simp only [hs0, and_self, if_true, show (0 : Nat) ≠ 2 by decide, show (0 : Nat) ≠ 1 by decide, if_false, r1, List.length_cons]
    omega
theorem ends_rep : ∀ n, ends (List.replicate n 0) n n
  | 0 => ⟨rfl, rfl⟩
  | n + 1 => by
    rw [List.replicate_succ]
    exact ⟨by omega, fun _ => by omega, fun _ => by omega, by simpa using ends_rep n⟩
theorem cst_rep (u : Nat → Nat → Int) : ∀ n, (∀ i, i < n → u i i = 0) → cst u (List.replicate n 0) n n = 0
  | 0, _ => rfl
  | n + 1, h => by
    rw [List.replicate_succ]
    unfold cst
    have := cst_rep u n (fun i hi => h i (by omega))
    simp [h n (by omega), this]
/-- THE SCRIPT OF A TEXT WITHOUT N AND ITSELF: all pairs alike -/
theorem pth_self (R : List Nat) (hR : ∀ m ∈ R, m < 4) (hl : R.length ≤ 300) : (pth R R).length = R.length ∧ cntB (sN R R) (pth R R) R.length R.length = R.length := by
  have hu := uN_bd R R
  have hm : ∀ i, i < R.length → R.getD i 9 < 4 := fun i hi => by
    rw [List.getD_eq_getElem?_getD, List.getElem?_eq_getElem hi]
    exact hR _ (List.getElem_mem _)
  have hz : ∀ i, i < R.length → uN R R i i = 0 := fun i hi => by
    have := hm i hi
    unfold uN prC
    rw [if_pos ⟨rfl, by omega⟩]
  have he := path_ends 1048576 (by omega) (uN R R) hu (R.length + R.length) R.length R.length 0 hl (by omega) (Nat.le_refl _)
  have hc := path_cost 1048576 (by omega) (uN R R) hu (R.length + R.length) R.length R.length 0 hl (by omega) (Nat.le_refl _) (by omega)
  have hg := cst_ge 1048576 (by omega) (uN R R) (List.replicate R.length 0) R.length R.length 0 (by omega) (ends_rep _)
  rw [cst_rep _ _ hz] at hg
  have j0 : ∀ t, jn 0 t = 0 := fun t => by simp [jn]
  rw [j0] at hc hg
  have hs : ∀ a b, a < R.length → b < R.length → uN R R a b = 0 → sN R R a b = true := by
    intro a b ha hb h
    unfold uN prC at h
    unfold sN
    split at h
    · rename_i h'; simpa using h'
    · omega
  have r := cst_zero (uN R R) (sN R R) (fun i j => (hu i j).1) _ _ _ he hs (by omega)
  exact ⟨r.2.1, by have := r.1; have := r.2.1; unfold pth; omega⟩
theorem sc_self (a : List UInt8) (ha : ∀ m ∈ nums a, m < 4) (hg : ∀ c ∈ a, 0 ≤ numb c) (hl : a.length ≤ 300) : scE a a = 0 ∧ scN a a = a.length ∧ (pth (nums a) (nums a)).length = a.length := by
  have he : scE a a = 0 := by
    unfold scE
    rw [if_neg (by omega), if_pos ⟨hg, hg⟩]
  have hn : (nums a).length = a.length := by simp [nums]
  have h := pth_self (nums a) ha (by omega)
  refine ⟨he, ?_, by omega⟩
  unfold scN
  rw [if_pos he]
  omega
end Go.Proofs.YtilcmkiihefkkaaGreatDoor
end
section
set_option linter.unusedVariables false
set_option linter.unusedSimpArgs false
set_option maxRecDepth 100000
namespace Go.Proofs.YtilcmkiihefkkaaGreatDoor
open Go.RowKit Go.Shelf
def lastS (la : Nat) : ByteArray := if la = 9 then ⟨#[]⟩ else ⟨#[ltr la]⟩
theorem lastS_ne (la l : Nat) (hl : l ≤ 2) (ha : la ≤ 2 ∨ la = 9) (h : la ≠ l) : (([ltr l] : List UInt8) == (lastS la).toList) = false := by
  rcases (show l = 0 ∨ l = 1 ∨ l = 2 by omega) with rfl | rfl | rfl <;> rcases (show la = 0 ∨ la = 1 ∨ la = 2 ∨ la = 9 by omega) with rfl | rfl | rfl | rfl <;> first | (exact absurd rfl h) | kernel_rfl
def LeP (o : List Nat) (w : World) (e : Ending) (w' : World) : Prop := e = .returned (.tuple #[.string (lets o), .bool true]) ∧ Below w.heap.size w w'
/-- where letters stands at a place of the text -/
structure LI (s : ByteArray) (fin : LS) (i : Nat) (st : LS) : Prop where
  rest : pst (s.data.toList.drop i) st = some fin
  len : st.o.length ≤ 1000 * i
  n : st.n ≤ 1000
  la : st.la ≤ 2 ∨ st.la = 9
theorem LI.step {s : ByteArray} {fin : LS} {i : Nat} {st : LS} (h : LI s fin i st) (hi : i < s.size) :
    (∃ d, d ≤ 9 ∧ s[i].toNat = 48 + d ∧ 0 < 10 * st.n + d ∧ 10 * st.n + d ≤ 1000 ∧ LI s fin (i + 1) ⟨st.o, 10 * st.n + d, st.la⟩) ∨
    (∃ l, l ≤ 2 ∧ s[i] = ltr l ∧ 0 < st.n ∧ st.la ≠ l ∧ LI s fin (i + 1) ⟨st.o ++ List.replicate st.n l, 0, l⟩) := by
  have hi' : i < s.data.toList.length := by simpa using hi
  have hr := h.rest
  rw [List.drop_eq_getElem_cons hi'] at hr
  have e : s.data.toList[i] = s[i] := rfl
  rw [e] at hr
  change (lstep st s[i]).bind (pst _) = _ at hr
  cases hs : lstep st s[i] with
  | none => rw [hs] at hr; cases hr
  | some st' =>
    rw [hs] at hr
    rcases lstep_cases st st' _ hs with ⟨d, h1, h2, h3, h4, rfl⟩ | ⟨l, h1, h2, h3, h4, rfl⟩
    · exact Or.inl ⟨d, h1, h2, h3, h4, hr, by have := h.len; simp only; omega, h4, h.la⟩
    · exact Or.inr ⟨l, h1, h2, h3, h4, hr, by have := h.len; have := h.n; simp only [List.length_append, List.length_replicate]; omega, by simp, Or.inl h1⟩
theorem LI.done {s : ByteArray} {fin : LS} {st : LS} (h : LI s fin s.size st) : st = fin := by
  have hr := h.rest
  rw [List.drop_of_length_le (by simp)] at hr
  exact Option.some.inj hr
set_option maxHeartbeats 8000000 in
theorem lletters_any (s : ByteArray) (o : List Nat) (la : Nat) (hs : s.size ≤ 1000000) (h : pst s.data.toList ⟨[], 0, 9⟩ = some ⟨o, 0, la⟩) (w : World) :
    Calls Tryz.prog 53 #[.string s] w (LeP o w) := by
  have H0 : Hid (LI s ⟨o, 0, la⟩ 0 ⟨[], 0, 9⟩) := ⟨h, Nat.zero_le _, Nat.zero_le _, Or.inr rfl⟩
  clear h
  go_enter Tryz.func53, Tryz.ntmps53
  go_wp2_with fail
  go_loopw [4, 5, 6, 7] (fun ov nv lv iv wx => ∃ (i : Nat) (st : LS), i ≤ s.size ∧ ov = .string (lets st.o) ∧ nv = .int .i64 (st.n : Nat) ∧ lv = .string (lastS st.la) ∧ iv = .int .i64 i ∧ LI s ⟨o, 0, la⟩ i st ∧ Below w.heap.size w wx) (fun _ _ _ iv _ => s.size - (RowKit.intOf iv).toNat)
  case atStart => exact ⟨0, ⟨[], 0, 9⟩, Nat.zero_le _, rfl, rfl, rfl, rfl, H0.out, Below.refl _ _⟩
  case round =>
    clear H0
    obtain ⟨i, st, hi, rfl, rfl, rfl, rfl, hli, hbel⟩ := hrel
    have HBL : Hid (Below w.heap.size w wr) := hbel
    have HLI : Hid (LI s ⟨o, 0, la⟩ i st) := hli
    clear hbel hli
    by_cases hlt : i < s.size
    · have hiI : (i : Int) < s.size := by omega
      have hiw : IntKind.i64.wrap ((i : Int) + 1) = (i : Int) + 1 := by rw [IntKind.wrap_i64]; omega
      have hx := extract_one s i hlt
      have hin : ((i : Int) + 1).toNat = i + 1 := by omega
      have hi0 : (0 : Int) ≤ (i : Int) + 1 := by omega
      have hc3 : (i : Int) + 1 ≤ s.size := by omega
      have hc4 : (i : Int) ≤ (i : Int) + 1 := by omega
      have hnb := HLI.out.n
      have hlen := HLI.out.len
      obtain ⟨N, hN⟩ : ∃ N, N = st.n := ⟨_, rfl⟩
      rcases HLI.out.step hlt with ⟨d, h1, h2, h3, h4, h5⟩ | ⟨l, h1, h2, h3, h4, h5⟩
      · rw [← hN] at h3 h4 h5 hnb ⊢
        have HL5 : Hid (LI s ⟨o, 0, la⟩ (i + 1) ⟨st.o, 10 * N + d, st.la⟩) := h5
        obtain ⟨M, hM⟩ : ∃ M, M = 10 * N + d := ⟨_, rfl⟩
        have hc : (s[i].toNat : Int) = 48 + d := by omega
        have hw1 : IntKind.u8.wrap (48 + (d : Int) - 48) = d := by rw [IntKind.wrap_u8]; omega
        have hw2 : IntKind.i64.wrap (10 * (N : Int)) = 10 * N := by rw [IntKind.wrap_i64]; omega
        have hw3 : IntKind.i64.wrap (10 * (N : Int) + d) = (M : Int) := by rw [IntKind.wrap_i64]; omega
        have g1 : (48 : Int) ≤ 48 + d := by omega
        have g2 : (48 : Int) + d ≤ 57 := by omega
        have g3 : ((M : Int) == 0) = false := by rw [beq_eq_false_iff_ne]; omega
        have g4 : ¬ (1000 : Int) < M := by omega
        rw [← hM] at HL5
        clear h2 h5 hN hx hM h3 h4
        go_wp2_with fail
        case roundEnd => exact ⟨⟨i + 1, ⟨st.o, M, st.la⟩, by omega, rfl, rfl, rfl, by go_num, HL5.out, HBL.out⟩, by simp [RowKit.intOf]; omega⟩
      · rw [← hN] at h3 h5 hnb ⊢
        have HL5 : Hid (LI s ⟨o, 0, la⟩ (i + 1) ⟨st.o ++ List.replicate N l, 0, l⟩) := h5
        rw [h2] at hx
        have hne := lastS_ne st.la l h1 HLI.out.la h4
        obtain ⟨ls, hls⟩ : ∃ ls, ls = lastS st.la := ⟨_, rfl⟩
        rw [← hls] at hne ⊢
        have qN : ((N : Int) == 0) = false := by rw [beq_eq_false_iff_ne]; omega
        have hNi : (0 : Int) < N := by omega
        obtain ⟨O, hO⟩ : ∃ O, O = st.o := ⟨_, rfl⟩
        rw [← hO] at hlen HL5 ⊢
        clear h5 hN hls h4 hO h3
        rcases (show l = 0 ∨ l = 1 ∨ l = 2 by omega) with rfl | rfl | rfl
        · have hc : (s[i].toNat : Int) = 77 := by rw [h2]; rfl
          rw [show ltr 0 = (77 : UInt8) from rfl] at hx hne
          clear h2
          go_wp2_with fail
          go_loopw [4, 9] (fun ov kv wx => ∃ k : Nat, k ≤ N ∧ kv = .int .i64 k ∧ ov = .string (lets (O ++ List.replicate k 0)) ∧ Below w.heap.size w wx) (fun _ kv _ => N - (RowKit.intOf kv).toNat)
          case atStart => exact ⟨0, Nat.zero_le _, rfl, by simp, HBL.out⟩
          case round =>
            clear HBL
            obtain ⟨k, hk, rfl, rfl, hbel⟩ := hrel
            have HBL : Hid (Below w.heap.size w wr) := hbel
            clear hbel
            obtain ⟨P, hP⟩ : ∃ P, P = lets (O ++ List.replicate k 0) := ⟨_, rfl⟩
            have hPs : P.size ≤ 1000001000 := by rw [hP, lets_size, List.length_append, List.length_replicate]; omega
            have hPo : ¬ 9223372036854775807 < P.size + 1 := by omega
            have HP : Hid (P = lets (O ++ List.replicate k 0)) := hP
            rw [← hP]
            clear hP
            by_cases hkN : k < N
            · have hkI : (k : Int) < N := by omega
              have hkw : IntKind.i64.wrap ((k : Int) + 1) = (k : Int) + 1 := by rw [IntKind.wrap_i64]; omega
              go_wp2_with fail
              go_roundw
              case rel => exact ⟨k + 1, by omega, by go_num, by rw [List.replicate_succ', ← List.append_assoc, lets_snoc, ← HP.out]; rfl, HBL.out⟩
              case measure => simp [RowKit.intOf]; omega
            · have hke : k = N := by omega
              have hkI : ¬ (k : Int) < N := by omega
              rw [hke] at HP
              clear hke
              go_wp2_with fail
              go_roundw
              case rel => exact ⟨i + 1, ⟨O ++ List.replicate N 0, 0, 0⟩, by omega, by rw [HP.out], rfl, rfl, by go_num, HL5.out, HBL.out⟩
              case measure => simp [RowKit.intOf]; omega
        · have hc : (s[i].toNat : Int) = 73 := by rw [h2]; rfl
          rw [show ltr 1 = (73 : UInt8) from rfl] at hx hne
          clear h2
          go_wp2_with fail
          go_loopw [4, 9] (fun ov kv wx => ∃ k : Nat, k ≤ N ∧ kv = .int .i64 k ∧ ov = .string (lets (O ++ List.replicate k 1)) ∧ Below w.heap.size w wx) (fun _ kv _ => N - (RowKit.intOf kv).toNat)
          case atStart => exact ⟨0, Nat.zero_le _, rfl, by simp, HBL.out⟩
          case round =>
            clear HBL
            obtain ⟨k, hk, rfl, rfl, hbel⟩ := hrel
            have HBL : Hid (Below w.heap.size w wr) := hbel
            clear hbel
            obtain ⟨P, hP⟩ : ∃ P, P = lets (O ++ List.replicate k 1) := ⟨_, rfl⟩
            have hPs : P.size ≤ 1000001000 := by rw [hP, lets_size, List.length_append, List.length_replicate]; omega
            have hPo : ¬ 9223372036854775807 < P.size + 1 := by omega
            have HP : Hid (P = lets (O ++ List.replicate k 1)) := hP
            rw [← hP]
            clear hP
            by_cases hkN : k < N
            · have hkI : (k : Int) < N := by omega
              have hkw : IntKind.i64.wrap ((k : Int) + 1) = (k : Int) + 1 := by rw [IntKind.wrap_i64]; omega
              go_wp2_with fail
              go_roundw
              case rel => exact ⟨k + 1, by omega, by go_num, by rw [List.replicate_succ', ← List.append_assoc, lets_snoc, ← HP.out]; rfl, HBL.out⟩
              case measure => simp [RowKit.intOf]; omega
            · have hke : k = N := by omega
              have hkI : ¬ (k : Int) < N := by omega
              rw [hke] at HP
              clear hke
              go_wp2_with fail
              go_roundw
              case rel => exact ⟨i + 1, ⟨O ++ List.replicate N 1, 0, 1⟩, by omega, by rw [HP.out], rfl, rfl, by go_num, HL5.out, HBL.out⟩
              case measure => simp [RowKit.intOf]; omega
        · have hc : (s[i].toNat : Int) = 68 := by rw [h2]; rfl
          rw [show ltr 2 = (68 : UInt8) from rfl] at hx hne
          clear h2
          go_wp2_with fail
          go_loopw [4, 9] (fun ov kv wx => ∃ k : Nat, k ≤ N ∧ kv = .int .i64 k ∧ ov = .string (lets (O ++ List.replicate k 2)) ∧ Below w.heap.size w wx) (fun _ kv _ => N - (RowKit.intOf kv).toNat)
          case atStart => exact ⟨0, Nat.zero_le _, rfl, by simp, HBL.out⟩
          case round =>
            clear HBL
            obtain ⟨k, hk, rfl, rfl, hbel⟩ := hrel
            have HBL : Hid (Below w.heap.size w wr) := hbel
            clear hbel
            obtain ⟨P, hP⟩ : ∃ P, P = lets (O ++ List.replicate k 2) := ⟨_, rfl⟩
            have hPs : P.size ≤ 1000001000 := by rw [hP, lets_size, List.length_append, List.length_replicate]; omega
            have hPo : ¬ 9223372036854775807 < P.size + 1 := by omega
            have HP : Hid (P = lets (O ++ List.replicate k 2)) := hP
            rw [← hP]
            clear hP
            by_cases hkN : k < N
            · have hkI : (k : Int) < N := by omega
              have hkw : IntKind.i64.wrap ((k : Int) + 1) = (k : Int) + 1 := by rw [IntKind.wrap_i64]; omega
              go_wp2_with fail
              go_roundw
              case rel => exact ⟨k + 1, by omega, by go_num, by rw [List.replicate_succ', ← List.append_assoc, lets_snoc, ← HP.out]; rfl, HBL.out⟩
              case measure => simp [RowKit.intOf]; omega
            · have hke : k = N := by omega
              have hkI : ¬ (k : Int) < N := by omega
              rw [hke] at HP
              clear hke
              go_wp2_with fail
              go_roundw
              case rel => exact ⟨i + 1, ⟨O ++ List.replicate N 2, 0, 2⟩, by omega, by rw [HP.out], rfl, rfl, by go_num, HL5.out, HBL.out⟩
              case measure => simp [RowKit.intOf]; omega
    · have hie : i = s.size := by omega
      have hiI : ¬ (i : Int) < s.size := by omega
      have hli := HLI.out
      rw [hie] at hli
      have hfin := hli.done
      subst hfin
      clear hli hie
      go_wp2_with fail
      go_ret2
      exact ⟨rfl, HBL.out⟩
end Go.Proofs.YtilcmkiihefkkaaGreatDoor
end
