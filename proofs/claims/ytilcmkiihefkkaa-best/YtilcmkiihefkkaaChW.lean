import Derived.Test.YtilcmkiihefkkaaChS
import Derived.Lib.SliceRun
import Derived.Deep.CutBlock
import Derived.Deep.DeepCutAuto
set_option linter.unusedVariables false
set_option linter.unusedSimpArgs false
namespace Go.Proofs.Ytilcmkiihefkkaa
open Go.RowKit Go.Shelf Go.Lib

theorem BkA.below {w0 w : World} {base Bb k n c B : Nat} {v0 wv0 lv wv : Value} {E : List (Value × Int)} {vs : List Value} (h : BkA w0 base Bb k n v0 wv0 E vs c lv wv w) (hB : B ≤ Bb) (hw : B ≤ w0.heap.size) (hv : ∀ g, v0.ownBlock = some g → B ≤ g) (hwv : ∀ g, wv0.ownBlock = some g → B ≤ g) : Below B w0 w :=
  ⟨h.os, h.tape, h.output, Nat.le_of_lt h.size, fun q hq => h.other q (by omega) (by omega) (fun he => by have := hwv q he; omega) (fun he => by have := hv q he; omega)⟩

/-- all that is written down -/
def entsA (vs1 vs2 : List Value) : List (Value × Int) := (vs1.map fun v => (v, ((0 : Nat) : Int))) ++ (vs2.map fun v => (v, ((4 : Nat) : Int)))

/-- both lists are written down, and looked at -/
theorem bookA_two {w6 w7 w8 : World} {base Bb n : Nat} {v1 v2 lv1 wv1 lv2 wv2 : Value} {vs1 vs2 : List Value} (hn : n < 1000000000) (hbase : base ≤ w6.heap.size)
    (h1 : BkA w6 base Bb 0 n v1 (.slice none 0 0) [] vs1 3 lv1 wv1 w7)
    (h2 : BkA w7 base Bb 4 n v2 wv1 (vs1.map fun v => (v, ((0 : Nat) : Int))) vs2 3 lv2 wv2 w8)
    (hv2 : ∀ g, v2.ownBlock = some g → g < w6.heap.size ∧ v1.ownBlock ≠ some g) :
    ∀ i (h : i < (entsA vs1 vs2).length), ∃ n' mk : Nat, (entsA vs1 vs2)[i].2 = mk ∧ mk ≤ 1000 ∧ n' < 4398046511104 ∧ OwnR w8 base 62 2 (entsA vs1 vs2)[i].1 n' (acells (marka n' mk)) := by
  intro i hi
  have hmem := List.getElem_mem hi
  generalize (entsA vs1 vs2)[i] = e at *
  unfold entsA at hmem
  rw [List.mem_append, List.mem_map, List.mem_map] at hmem
  rcases hmem with ⟨v, hv, rfl⟩ | ⟨v, hv, rfl⟩
  · obtain ⟨j, hj, ho, _⟩ := h1.sl v hv
    refine ⟨n + j, 0, rfl, by omega, by omega, ho.other (fun g hg hlt => ?_)⟩
    have hsz := h1.size
    refine h2.other g hlt (fun e => ?_) (fun he => ?_) (fun he => ?_)
    · subst e
      exact ho.tag (by decide) h1.book hg
    · obtain ⟨_, hh⟩ := h1.ent
      rcases hh with ⟨hz, _⟩ | ⟨g2, o2, cap2, cur2, hz, _, hb2, _⟩
      · rw [hz] at he; simp [Value.ownBlock] at he
      · rw [hz] at he
        simp only [Value.ownBlock, Option.some.injEq] at he
        subst he
        exact ho.tag (by decide) hb2 hg
    · obtain ⟨q1, q2⟩ := hv2 g he
      rcases (h1.nm v (Or.inr hv)).2 g hg with h3 | h3
      · exact q2 h3
      · omega
  · obtain ⟨j, hj, ho, _⟩ := h2.sl v hv
    exact ⟨n + j, 4, rfl, by omega, by omega, ho⟩

theorem lent_take (L : List (Int × Int)) (j : Nat) (hj : j < L.length) (hj2 : j < (lentL L).length) : (lentL L)[j] = L[j] := by
  simp only [lentL]; rw [List.getElem_append_left hj]

set_option maxRecDepth 100000 in
set_option maxHeartbeats 8000000 in
theorem chains_any (L : List (Int × Int)) (n : Nat) (hn : L.length = n) (ao : Option Addr) (cap : Nat) (k : Int) (w : World) (h4 : n ≤ 8796093022208) (hA : RdA w ao L) (hnil : ao = none → n = 0) :
    Calls Try.prog 7 #[.slice ao n cap, .int .i64 k] w fun e w' => e = .returned (.bool true) ∧ Below w.heap.size w w' := by
  have heq := fun W => Lib.run_eql_slice_nil (P := Try.prog) W 52 62 ao n cap 0 0 Try.underlying52
  have ho := ansF_eq L k
  have hMl := ansM_length L k
  have hMb := ansM_bad L k
  have HR := fun W (hA' : RdA W ao L) => rchain_all L n hn ao cap k W hA'
  obtain ⟨fl, hfl⟩ : ∃ x, x = ansF L k := ⟨_, rfl⟩
  obtain ⟨er, her⟩ : ∃ x, x = ansE L k := ⟨_, rfl⟩
  obtain ⟨M, hM⟩ : ∃ x, x = ansM L k := ⟨_, rfl⟩
  have HC1 := rchain_all L n hn ao cap k w hA
  have HC2 := fun (ao' : Option Addr) (cap' : Nat) W (hA' : RdA W ao' L) => achain_all L n hn ao' cap' k W hA'
  unfold ChPost at HC1 HC2
  rw [← hfl] at ho HC1 HC2
  rw [← her] at HC1 HC2 hMb
  rw [← hM] at hMl hMb HC1 HC2
  have HN : Hid (L.length = n) := hn
  clear HR hfl her hM hn
  have HNIL : Hid (ao = none → n = 0) := hnil
  have HA : Hid (RdA w ao L) := hA
  have HMB : Hid (er ≠ 0 → M = []) := hMb
  clear hnil hA hMb
  go_enter Try.func7, Try.ntmps7
  go_wp2_with fail
  refine HC1.mono ?_
  rintro e w1 ⟨v0, rfl, hb1, ho1, hv0⟩
  obtain ⟨ao0, c0, rfl⟩ := ho1.shape
  have hLe := lent_any L n HN.out ao cap w1 h4 (by
    rcases HA.out with h | ⟨g, o, h1, h2, h3⟩
    · exact Or.inl h
    · refine Or.inr ⟨g, o, h1, Nat.lt_of_lt_of_le h2 hb1.size, fun j hj => ?_⟩
      rw [hb1.cell h2, hb1.cell h2]; exact h3 j hj)
  clear HC1
  go_wp2_with fail
  refine hLe.mono ?_
  rintro e w2 ⟨rfl, hin, hb2⟩
  clear hLe
  have HB1 : Hid (Below w.heap.size w w1) := hb1
  have HB2 : Hid (Below w1.heap.size w1 w2) := hb2
  have HIN : Hid (OwnR w2 w1.heap.size 62 2 (.slice (some ⟨w1.heap.size, 0, none⟩) (n + 8) (n + 8)) (n + 8) (acells (lentL L))) := hin
  have HO1 : Hid (OwnR w1 w.heap.size 62 2 (.slice ao0 M.length c0) M.length (acells M)) := ho1
  have HRA : Hid (RdA w2 (some ⟨w1.heap.size, 0, none⟩) L) := by
    refine Or.inr ⟨w1.heap.size, 0, rfl, (hin.lt rfl).2, fun j hj => ?_⟩
    have h1 := hin.ans j (by rw [lentL_length]; omega)
    rw [lent_take L j hj] at h1
    exact h1
  clear hb1 hb2 hin ho1
  go_upto_if 34 with fail
  go_cut [9] (fun av wc => wc = w2 ∧ ∃ aA cA, av = .slice aA n cA ∧ RdA w2 aA L)
  case first =>
    cases ao with
    | none =>
      have hn0 := HNIL.out rfl
      subst hn0
      go_wp2_with fail
      go_meet
      case rel => exact ⟨rfl, none, 0, rfl, Or.inl (List.eq_nil_of_length_eq_zero HN.out)⟩
    | some a =>
      go_wp2_with fail
      go_meet
      case rel => exact ⟨rfl, _, _, rfl, HRA.out⟩
  case rest =>
    obtain ⟨hwc, aA, cA, rfl, hRA⟩ := hcut
    subst hwc
    obtain ⟨w2', hw2'⟩ : ∃ x : World, x = wc := ⟨_, rfl⟩
    subst hw2'
    clear HRA heq
    go_wp2_with fail
    refine (HC2 aA cA _ hRA).mono ?_
    rintro e w3 ⟨v1, rfl, hb3, ho3, hv1⟩
    obtain ⟨ao1, c1, rfl⟩ := ho3.shape
    have hRA3 : RdA w3 aA L := by
      rcases hRA with h | ⟨g, o, h1, h2, h3⟩
      · exact Or.inl h
      · refine Or.inr ⟨g, o, h1, Nat.lt_of_lt_of_le h2 hb3.size, fun j hj => ?_⟩
        rw [hb3.cell h2, hb3.cell h2]; exact h3 j hj
    clear hRA
    go_wp2_with fail
    refine (HC2 aA cA _ hRA3).mono ?_
    rintro e w4 ⟨v2, rfl, hb4, ho4, hv2⟩
    obtain ⟨ao2, c2, rfl⟩ := ho4.shape
    have HO3 : Hid (OwnR w3 w2'.heap.size 62 2 (.slice ao1 M.length c1) M.length (acells M)) := ho3
    have HO4 : Hid (OwnR w4 w3.heap.size 62 2 (.slice ao2 M.length c2) M.length (acells M)) := ho4
    have HB3 : Hid (Below w2'.heap.size w2' w3) := hb3
    have HB4 : Hid (Below w3.heap.size w3 w4) := hb4
    have HB14 : Hid (Below w1.heap.size w1 w4) := (HB2.out.trans (hb3.mono HB2.out.size)).trans (hb4.mono (Nat.le_trans HB2.out.size hb3.size))
    have HB04 : Hid (Below w.heap.size w w4) := HB1.out.trans (HB14.out.mono HB1.out.size)
    have r1 : RdC w4 (.slice ao1 M.length c1) M := RdC.of_own (ho3.other (fun g _ hlt => hb4.block g hlt))
    have r0 : RdC w4 (.slice ao0 M.length c0) M := RdC.of_own (HO1.out.other (fun g _ hlt => HB14.out.block g hlt))
    have r2 : RdC w4 (.slice ao2 M.length c2) M := RdC.of_own ho4
    have HR0 : Hid (RdC w4 (.slice ao0 M.length c0) M) := r0
    have HR1 : Hid (RdC w4 (.slice ao1 M.length c1) M) := r1
    have HR2 : Hid (RdC w4 (.slice ao2 M.length c2) M) := r2
    have HV1 : Hid (er ≠ 0 → Value.slice ao1 M.length c1 = .slice none 0 0) := hv1
    clear r0 r1 r2 hb3 hb4 ho3 ho4 hRA3 HC2 hv0 hv1 hv2
    go_wp2_with fail
    refine (sameA_any M _ _ w4 (by omega) HR1.out HR0.out).mono ?_
    rintro e w5 ⟨rfl, m5, rfl⟩
    go_wp2_with fail
    refine (sameA_any M _ _ (w4.drewN m5) (by omega) (HR2.out.drewN _) (HR0.out.drewN _)).mono ?_
    rintro e w5' ⟨rfl, m6, rfl⟩
    go_wp2_with fail
    have hLe := lent_any L n HN.out ao cap (w4.drewN (m5 + m6)) h4 (by
      rcases HA.out with h | ⟨g, o, h1, h2, h3⟩
      · exact Or.inl h
      · refine Or.inr ⟨g, o, h1, Nat.lt_of_lt_of_le h2 HB04.out.size, fun j hj => ?_⟩
        have h5 := h3 j hj
        rw [← HB04.out.cell h2, ← HB04.out.cell h2] at h5
        exact h5)
    refine hLe.mono ?_
    rintro e w6 ⟨rfl, hin6, hb6⟩
    have HB46 : Hid (Below w4.heap.size w4 w6) := ⟨hb6.os, hb6.tape, hb6.output, hb6.size, hb6.block⟩
    have hri : RdC w6 (.slice (some ⟨w1.heap.size, 0, none⟩) (n + 8) (n + 8)) (lentL L) := by
      have h1 : OwnR w6 w1.heap.size 62 2 (.slice (some ⟨w1.heap.size, 0, none⟩) (n + 8) (n + 8)) (n + 8) (acells (lentL L)) := ((HIN.out.other (fun g _ hlt => HB3.out.block g hlt)).other (fun g _ hlt => HB4.out.block g hlt)).other (fun g _ hlt => HB46.out.block g hlt)
      have e : n + 8 = (lentL L).length := by rw [lentL_length, HN.out]
      rw [e] at h1 ⊢
      exact RdC.of_own h1
    have hrj : RdC w6 (.slice (some ⟨(w4.drewN (m5 + m6)).heap.size, 0, none⟩) (n + 8) (n + 8)) (lentL L) := by
      have e : n + 8 = (lentL L).length := by rw [lentL_length, HN.out]
      rw [e] at hin6 ⊢
      exact RdC.of_own hin6
    have HSI : Hid (Calls Try.prog 26 #[.slice (some ⟨w1.heap.size, 0, none⟩) (n + 8) (n + 8), .slice (some ⟨(w4.drewN (m5 + m6)).heap.size, 0, none⟩) (n + 8) (n + 8)] w6 fun e w' => e = .returned (.bool true) ∧ ∃ n, w' = w6.drewN n) := sameA_any (lentL L) _ _ w6 (by rw [lentL_length, HN.out]; omega) hri hrj
    clear hri hrj hin6 hb6 hLe
    go_wp2_with fail
    refine HSI.out.mono ?_
    rintro e w7 ⟨rfl, m7, rfl⟩
    clear HSI
    go_upto_region 11 with fail
    go_cut [96] (fun bv wc => bv = .bool false ∧ wc = w6.drewN m7)
    case first =>
      by_cases her : er = 0
      · subst her
        go_wp2_with fail
        go_meet
        case rel => exact ⟨rfl, rfl⟩
      · have hv := HV1.out her
        simp only [Value.slice.injEq] at hv
        have hao1 := hv.1
        clear hv
        subst hao1
        have hneq := fun W => run_neq_slice_nil_any (P := Try.prog) W 52 62 none M.length c1 0 0 Try.underlying52
        have herb : (er == 0) = false := by rw [beq_eq_false_iff_ne]; exact her
        go_wp2_with fail
        go_meet
        case rel => exact ⟨rfl, rfl⟩
    case rest =>
      obtain ⟨rfl, hwc⟩ := hcut
      subst hwc
      clear ho
      have HB06 : Hid (Below w.heap.size w w6) := HB04.out.trans (HB46.out.mono HB04.out.size)
      have HB34 : Hid (Below w3.heap.size w3 w6) := HB4.out.trans (HB46.out.mono HB4.out.size)
      have HS0 : Hid (w.heap.size ≤ w3.heap.size) := by
        have h1 := HB1.out.size
        have h2 := HB2.out.size
        have h3 := HB3.out.size
        show _ ≤ _
        omega
      have HV1o : Hid (OwnR w6 w.heap.size 62 2 (.slice ao1 M.length c1) M.length (acells M)) := (HO3.out.other (fun g _ hlt => HB34.out.block g hlt)).base (by have h1 := HB1.out.size; have h2 := HB2.out.size; omega)
      have HV2o : Hid (OwnR w6 w.heap.size 62 2 (.slice ao2 M.length c2) M.length (acells M)) := (HO4.out.other (fun g _ hlt => HB46.out.block g hlt)).base HS0.out
      have HVne : Hid (∀ g, (Value.slice ao2 M.length c2).ownBlock = some g → g < w6.heap.size ∧ (Value.slice ao1 M.length c1).ownBlock ≠ some g) := fun g hg => by
        have h1 := HO4.out.lt hg
        have h2 := HB46.out.size
        refine ⟨by omega, fun he => ?_⟩
        have h3 := HO3.out.lt he
        omega
      clear HO1 HIN HO3 HO4 HB1 HB2 HB3 HB4 HB14 HB04 HR0 HR1 HR2 HV1 HB46 HB34
      go_wp2_with fail
      have hsA : ((w6.drewN m7).alloc (.cells #[.slice none 0 0, .slice none 0 0, .slice none 0 0, .slice none 0 0, .slice none 0 0] 34)).heap.size = w6.heap.size + 1 := by simp
      refine (ownA_any w6.heap.size 0 M.length M rfl [] rfl w.heap.size (.slice ao1 M.length c1) (.slice none 0 0) _ (by omega) (by omega) (by have := HB06.out.size; omega) (heap_alloc_new (w6.drewN m7) _) (OwnR.nil _ _ _ _) (HV1o.out.other (fun g _ hlt => Below.heap_alloc (w6.drewN m7) _ _ hlt))).mono ?_
      rintro e w8 ⟨rfl, vs1, lv1, wv1, hl1, hb8⟩
      have HB8 : Hid (BkA ((w6.drewN m7).alloc (.cells #[.slice none 0 0, .slice none 0 0, .slice none 0 0, .slice none 0 0, .slice none 0 0] 34)) w.heap.size w6.heap.size 0 M.length (.slice ao1 M.length c1) (.slice none 0 0) [] vs1 3 lv1 wv1 w8) := hb8
      have HL1 : Hid (vs1.length = 4) := hl1
      have HE8 : Hid (OwnR w8 w.heap.size 84 2 wv1 4 (ecells (vs1.map fun v => (v, ((0 : Nat) : Int))))) := by
        have := hb8.ent
        simp only [List.length_nil, Nat.zero_add, List.nil_append, hl1] at this
        exact this
      have HS8 : Hid (w6.heap.size + 1 < w8.heap.size) := by show _ < _; have := hb8.size; omega
      have HO8 : Hid (OwnR w8 w.heap.size 62 2 (.slice ao2 M.length c2) M.length (acells M)) := HV2o.out.other (fun g hg hlt => by
        have h1 := HVne.out g hg
        rw [hb8.other g (by omega) (by omega) (by simp [Value.ownBlock]) h1.2]
        exact Below.heap_alloc (w6.drewN m7) _ _ hlt)
      clear hb8 hl1
      go_wp2_with fail
      refine (ownA_any w6.heap.size 4 M.length M rfl (vs1.map fun v => (v, ((0 : Nat) : Int))) (by rw [List.length_map]; exact HL1.out) w.heap.size (.slice ao2 M.length c2) wv1 w8 (by omega) (by omega) (by have := HS8.out; have := HB06.out.size; omega) HB8.out.book HE8.out HO8.out).mono ?_
      rintro e w9 ⟨rfl, vs2, lv2, wv2, hl2, hb9⟩
      have HB9 : Hid (BkA w8 w.heap.size w6.heap.size 4 M.length (.slice ao2 M.length c2) wv1 (vs1.map fun v => (v, ((0 : Nat) : Int))) vs2 3 lv2 wv2 w9) := hb9
      have HL2 : Hid (vs2.length = 4) := hl2
      clear hb9 hl2
      go_wp2_with fail
      have hle : (entsA vs1 vs2).length = 8 := by unfold entsA; rw [List.length_append, List.length_map, List.length_map, HL1.out, HL2.out]
      refine (looksA_any w6.heap.size w.heap.size (entsA vs1 vs2) wv2 w9 (by omega) HB9.out.book (by
        have := HB9.out.ent
        rw [List.length_map, HL1.out, HL2.out] at this
        rw [hle]
        exact this) (bookA_two (by omega) (by have := HB06.out.size; omega) HB8.out HB9.out (fun g hg => by have h1 := HVne.out g hg; exact ⟨by omega, h1.2⟩))).mono ?_
      rintro e w10 ⟨rfl, hb10⟩
      clear hle
      go_wp2
      go_ret
      refine ⟨rfl, ?_⟩
      have hA : Below w.heap.size w ((w6.drewN m7).alloc (.cells #[.slice none 0 0, .slice none 0 0, .slice none 0 0, .slice none 0 0, .slice none 0 0] 34)) := by
        have := HB06.out.alloc HB06.out.size (.cells #[.slice none 0 0, .slice none 0 0, .slice none 0 0, .slice none 0 0, .slice none 0 0] 34)
        exact ⟨this.os, this.tape, this.output, this.size, this.block⟩
      have hB : Below w.heap.size ((w6.drewN m7).alloc (.cells #[.slice none 0 0, .slice none 0 0, .slice none 0 0, .slice none 0 0, .slice none 0 0] 34)) w8 := HB8.out.below HB06.out.size hA.size (fun g hg => (HV1o.out.lt hg).1) (fun g hg => by simp [Value.ownBlock] at hg)
      have hC : Below w.heap.size w8 w9 := HB9.out.below HB06.out.size (hA.trans hB).size (fun g hg => (HO8.out.lt hg).1) (fun g hg => (HE8.out.lt hg).1)
      exact ((hA.trans hB).trans hC).trans (hb10.mono ((hA.trans hB).trans hC).size)
end Go.Proofs.Ytilcmkiihefkkaa
