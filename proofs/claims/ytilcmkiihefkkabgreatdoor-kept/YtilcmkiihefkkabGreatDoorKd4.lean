import Derived.Test.YtilcmkiihefkkabGreatDoorKd0
import Derived.Test.YtilcmkiihefkkabGreatDoorKd3
section
set_option linter.unusedVariables false
set_option linter.unusedSimpArgs false
set_option maxRecDepth 100000
namespace Go.Proofs.YtilcmkiihefkkabGreatDoor.Mn
open Go.RowKit Go.Maps
attribute [local go_sem] run_store_flt
theorem GrP.low {κ α : Type} {P : Program} {kl : κ → Lit} {ok : κ → Prop} {enc : List α → List Value} {K E sz : Nat} {w : World} {base base' B n : Nat} {V : κ → Value} {L : κ → List α} (h : GrP P kl ok enc K E sz w base B n V L) (hb : base' ≤ base) : GrP P kl ok enc K E sz w base' B n V L :=
  ⟨h.map, fun x hx => (h.own x hx).low hb, h.apart⟩
/-- what is so of every reference that is read -/
def RfQ (x : S2) : Prop := (parseR (rfT x)).1 = [x] ∧ x.n.size ≤ 255
theorem rfX_q {l : List UInt8} (h : RfOk l) : RfQ (rfX l) := by
  refine ⟨h, ?_⟩
  show (rfN l).toArray.size ≤ 255
  have h1 := rdB_lt (l.take 1)
  have h2 := Nat.pow_le_pow_right (show 0 < 256 by omega) (show (l.take 1).length ≤ 1 by rw [List.length_take]; omega)
  rw [List.size_toArray]
  unfold rfN
  rw [List.length_take]
  omega
theorem RdsP.all : ∀ (m : Nat) (l : List UInt8) (acc R : List S2), RdsP m l acc R → (∀ x ∈ acc, RfQ x) → (∀ x ∈ R, RfQ x) ∧ R.length ≤ acc.length + m
  | 0, _, acc, R, h, ha => by
    have e : R = acc := h
    subst e
    exact ⟨ha, Nat.le_refl _⟩
  | m + 1, l, acc, R, h, ha => by
    rcases h with ⟨h1, h2, h3⟩ | ⟨h1, h2⟩
    · have := RdsP.all m _ _ _ h3 (fun x hx => by
        rcases List.mem_append.1 hx with hx | hx
        · exact ha x hx
        · simp at hx; subst hx; exact rfX_q h1)
      refine ⟨this.1, ?_⟩
      have h4 := this.2
      rw [List.length_append, List.length_singleton] at h4
      omega
    · subst h2
      exact ⟨fun x hx => (by cases hx), Nat.zero_le _⟩
theorem RfQ.facts {x : S2} (h : RfQ x) : good x.b ∧ x.b.size ≤ 1000000000 := by
  have hp := (parseR_ok (rfT x)).2 x (by rw [h.1]; exact List.mem_singleton.2 rfl)
  exact ⟨hp.1, by have := hp.2.2; omega⟩
theorem refs_len (R : List S2) (hq : ∀ x ∈ R, x.n.size ≤ 255) : (R.flatMap refB).length ≤ 258 * R.length + sumN R R.length := by
  have key : ∀ j, j ≤ R.length → ((R.take j).flatMap refB).length ≤ 258 * j + sumN R j := by
    intro j
    induction j with
    | zero => intro _; simp
    | succ j ih =>
      intro hj
      have h1 := ih (by omega)
      have hjR : j < R.length := by omega
      have e : sumN R (j + 1) = sumN R j + (R.getD j S0).b.size := rfl
      have hg : R.getD j S0 = R[j] := getD_get _ _ _ hjR
      have hn := hq R[j] (List.getElem_mem _)
      have hrl : (refB R[j]).length = R[j].n.size + R[j].b.size + 3 := by
        unfold refB
        rw [List.length_append, List.length_append, List.length_append, wrB_len, wrB_len]
        show 1 + R[j].n.size + 2 + R[j].b.size = _
        omega
      rw [List.take_add_one, List.getElem?_eq_getElem hjR, List.flatMap_append, List.length_append, e, hg]
      simp only [Option.toList_some, List.flatMap_cons, List.flatMap_nil, List.append_nil, hrl]
      omega
  have := key R.length (Nat.le_refl _)
  rwa [List.take_length] at this
/-- what Load answers -/
def LdP (T : List UInt8) (w : World) (e : Ending) (w' : World) : Prop :=
  ∃ R, RdsP (rdB ((T.drop 14).take 2)) (T.drop 16) [] R ∧ Below w.heap.size w w' ∧
    ((∃ X H, e = .returned (.tuple #[.pointer (some ⟨X, 0, none⟩), .int .i64 0]) ∧ optB (roK (T.drop 4)) (roW (T.drop 4)) (roS (T.drop 4)) = true ∧ refsE R = 0 ∧ HsP (tabN (roK (T.drop 4)) (roW (T.drop 4)) R R.length) H ∧ saveB (roK (T.drop 4)) (roW (T.drop 4)) (roS (T.drop 4)) R H = T ∧ IxP w' w.heap.size X R (roK (T.drop 4)) (roW (T.drop 4)) (roS (T.drop 4))) ∨
     (e = .returned (.tuple #[.pointer none, .int .i64 8]) ∧ (optB (roK (T.drop 4)) (roW (T.drop 4)) (roS (T.drop 4)) = true → refsE R = 0 → ∀ H, HsP (tabN (roK (T.drop 4)) (roW (T.drop 4)) R R.length) H → saveB (roK (T.drop 4)) (roW (T.drop 4)) (roS (T.drop 4)) R H ≠ T)))
theorem optB_facts {k W sc : Nat} (h : optB k W sc = true) : (1 ≤ k ∧ k ≤ 12) ∧ (1 ≤ W ∧ W ≤ 20) := by
  unfold optB at h
  simp only [Bool.and_eq_true, decide_eq_true_eq] at h
  have := h.1.1
  exact ⟨⟨by omega, by omega⟩, ⟨by omega, by omega⟩⟩
set_option maxHeartbeats 8000000 in
theorem Load_any (s : ByteArray) (w : World) (hs : s.size ≤ 140737488355328) :
    Calls Tryz.prog 10 #[.string s] w fun e w' => LdP s.data.toList w e w' := by
  obtain ⟨T, hT⟩ : ∃ T, T = s.data.toList := ⟨_, rfl⟩
  have HT : Hid (T = s.data.toList) := hT
  obtain ⟨B, hB⟩ : ∃ B, B = w.heap.size := ⟨_, rfl⟩
  obtain ⟨wA, hwA⟩ : ∃ W1 : World, W1 = w.alloc (Obj.cells #[.string s] 70) := ⟨_, rfl⟩
  have hbA : Below w.heap.size w wA := by rw [hwA]; exact (Below.refl _ _).alloc (Nat.le_refl _) _
  have hPA : RrP wA B s := by rw [hwA, hB]; exact heap_alloc_new w _
  have c1 := rtext_any s 4 B wA hPA (by omega) hs
  have HBA : Hid (Below w.heap.size w wA) := hbA
  have HBE : Hid (B = w.heap.size) := hB
  have hbl : ∀ {w' : World}, RrF B wA w' → Below w.heap.size w w' := fun h => ⟨h.os.trans hbA.os, h.tape.trans hbA.tape, h.output.trans hbA.output, Nat.le_trans hbA.size h.size, fun g hg => (h.other g (Nat.lt_of_lt_of_le hg hbA.size) (by omega)).trans (hbA.block g hg)⟩
  have HBL := (show Hid _ from @hbl)
  rw [← hT]
  clear hbA hPA hT hbl
  go_enter Tryz.func10, Tryz.ntmps10
  go_wp2_with fail
  rw [← hwA]
  clear hwA
  rw [← hB]
  clear hB
  refine c1.mono ?_
  rintro e w1 ⟨rfl, hP1, hF1⟩
  obtain ⟨s4, hs4⟩ : ∃ s4, s4 = drS 4 s := ⟨_, rfl⟩
  rw [← hs4] at hP1
  have e4 : s4.data.toList = T.drop 4 := by rw [hs4, drS_list, HT.out]
  have hs4l : s4.size ≤ 140737488355328 := by rw [hs4]; exact Nat.le_trans (drS_size _ _) hs
  have c2 := roptions_any s4 B w1 hP1 hs4l
  rw [e4] at c2
  obtain ⟨k, hk⟩ : ∃ k, k = roK (T.drop 4) := ⟨_, rfl⟩
  obtain ⟨W, hW⟩ : ∃ W, W = roW (T.drop 4) := ⟨_, rfl⟩
  obtain ⟨sc, hsc⟩ : ∃ sc, sc = roS (T.drop 4) := ⟨_, rfl⟩
  have hscl : sc < 18446744073709551616 := by rw [hsc]; exact roS_lt _
  rw [← hk, ← hW, ← hsc, List.drop_drop] at c2
  have HK := (show Hid _ from And.intro hk (And.intro hW hsc))
  have HF1 : Hid (RrF B wA w1) := hF1
  have HTL : Hid (T.length ≤ 140737488355328) := by rw [HT.out]; exact hs
  clear hs4 e4 hP1 hF1 c1 hk hW hsc
  go_wp2_with fail
  refine c2.mono ?_
  rintro e w2 ⟨rfl, ⟨t, ht, htl⟩, hF2⟩
  obtain ⟨wC, hwC⟩ : ∃ W1 : World, W1 = w2.alloc (Obj.cells #[.int .i64 k, .int .i64 W, .float .f64 sc] 24) := ⟨_, rfl⟩
  have hbC : Below w2.heap.size w2 wC := by rw [hwC]; exact (Below.refl _ _).alloc (Nat.le_refl _) _
  have hnC : wC.heap[w2.heap.size]? = some (.cells #[.int .i64 k, .int .i64 W, .float .f64 sc] 24 (0, 0)) := by rw [hwC]; exact heap_alloc_new w2 _
  have hBl2 : B < w2.heap.size := lt_of_block ht
  have c3 := rreferences_any t B wC ((hbC.block B hBl2).trans ht) (by rw [size_of htl, List.length_drop]; have := HTL.out; omega)
  rw [htl] at c3
  have HFC : Hid (RrF B wA wC) := HF1.out.trans (hF2.trans (RrF.of hbC))
  have HNC : Hid (wC.heap[w2.heap.size]? = some (.cells #[.int .i64 k, .int .i64 W, .float .f64 sc] 24 (0, 0))) := hnC
  clear hbC hnC ht htl hF2 HF1 c2
  go_wp2_with fail
  rw [← hwC]
  clear hwC
  refine c3.mono ?_
  rintro e w3 ⟨R, rv, rfl, hR, hRl, hown, hF3⟩
  have hR2 : RdsP (rdB ((T.drop 14).take 2)) (T.drop 16) [] R := by rw [List.drop_drop] at hR; exact hR
  obtain ⟨hRq, _⟩ := RdsP.all _ _ _ _ hR2 (fun x hx => by cases hx)
  have hFA3 := HFC.out.trans hF3
  have hn3 : w3.heap[w2.heap.size]? = some (.cells #[.int .i64 k, .int .i64 W, .float .f64 sc] 24 (0, 0)) := (hF3.other _ (lt_of_block HNC.out) (by omega)).trans HNC.out
  have HOUT : Hid (∀ e w', Below w.heap.size w w' → ((∃ X H, e = Ending.returned (.tuple #[.pointer (some ⟨X, 0, none⟩), .int .i64 0]) ∧ optB k W sc = true ∧ refsE R = 0 ∧ HsP (tabN k W R R.length) H ∧ saveB k W sc R H = T ∧ IxP w' w.heap.size X R k W sc) ∨
     (e = Ending.returned (.tuple #[.pointer none, .int .i64 8]) ∧ (optB k W sc = true → refsE R = 0 → ∀ H, HsP (tabN k W R R.length) H → saveB k W sc R H ≠ T))) → LdP T w e w') := by
    intro e w' h1 h2
    obtain ⟨e1, e2, e3⟩ := HK.out
    rw [e1, e2, e3] at h2
    exact ⟨R, hR2, h1, h2⟩
  have HRQ := (show Hid _ from hRq)
  have HN3 : Hid (w3.heap[w2.heap.size]? = some (.cells #[.int .i64 k, .int .i64 W, .float .f64 sc] 24 (0, 0))) := hn3
  have HF3 : Hid (RrF B wA w3) := hFA3
  have HO3 : Hid (OwnR w3 wC.heap.size 62 2 rv R.length (qcells R)) := hown
  have hCl : w.heap.size ≤ wC.heap.size := by have := HBA.out.size; have := HFC.out.size; omega
  have q0 : w3.cell? ⟨w2.heap.size, 0, none⟩ = some (.int .i64 k) := cell_at hn3 rfl
  have q1 : w3.cell? ⟨w2.heap.size, 1, none⟩ = some (.int .i64 W) := cell_at hn3 rfl
  have q2 : w3.cell? ⟨w2.heap.size, 2, none⟩ = some (.float .f64 sc) := cell_at hn3 rfl
  have hRf := fun x hx => RfQ.facts (hRq x hx)
  have c4 := optsMay_any (k : Int) (W : Int) sc
  clear hR hR2 hRq hFA3 hn3 hF3 c3 HFC HNC
  cases ho : optB (k : Int) (W : Int) sc
  · rw [ho] at c4
    go_wp2_with (go_at_call 15; refine (c4 _).mono ?_; rintro e w4 ⟨rfl, hb4⟩)
    go_ret2
    refine HOUT.out _ _ (HBL.out (HF3.out.trans (RrF.of hb4))) (Or.inr ⟨rfl, fun h => by rw [ho] at h; cases h⟩)
  · rw [ho] at c4
    obtain ⟨⟨hk1, hk2⟩, ⟨hW1, hW2⟩⟩ := optB_facts ho
    obtain ⟨ra, rc, hrv⟩ := hown.form
    subst hrv
    have c5 : ∀ W4, Below w3.heap.size w3 W4 → _ := fun W4 h4 => refsErr_any R wC.heap.size (.slice ra R.length rc) W4 (by omega) (fun x hx => (hRf x hx).2) (HO3.out.other (fun g _ hg => h4.block g hg))
    have C5 := (show Hid _ from c5)
    clear c5 hown
    go_wp2_with (go_at_call 15; refine (c4 _).mono ?_; rintro e w4 ⟨rfl, hb4⟩)
    refine (C5.out w4 hb4).mono ?_
    rintro e w5 ⟨rfl, hb5⟩
    have hb35 : Below w3.heap.size w3 w5 := hb4.trans (hb5.mono hb4.size)
    have HB35 : Hid (Below w3.heap.size w3 w5) := hb35
    have hl2 : w2.heap.size < w3.heap.size := lt_of_block HN3.out
    have hn5 := (hb35.block _ hl2).trans HN3.out
    clear q0 q1 q2
    have q0 : w5.cell? ⟨w2.heap.size, 0, none⟩ = some (.int .i64 k) := cell_at hn5 rfl
    have q1 : w5.cell? ⟨w2.heap.size, 1, none⟩ = some (.int .i64 W) := cell_at hn5 rfl
    have q2 : w5.cell? ⟨w2.heap.size, 2, none⟩ = some (.float .f64 sc) := cell_at hn5 rfl
    clear hn5 hb4 hb5 hb35 c4
    by_cases hre : refsE R = 0
    · have hsum : sumN R R.length ≤ 4000 := by
        unfold refsE at hre
        split at hre
        · cases hre
        · omega
      have c6 := newIndex_any R wC.heap.size (.slice ra R.length rc) k W sc w5 hk1 hk2 hW1 hW2 (by omega) (fun x hx => (hRf x hx).1) hsum (HO3.out.other (fun g _ hg => HB35.out.block g hg))
      have HRE : Hid (refsE R = 0) := hre
      rw [hre]
      clear hre
      go_wp2_with fail
      refine c6.mono ?_
      rintro e w6 ⟨X, Hb, V, rfl, hX, hHt, hb6, hX6, hHb6⟩
      have hlow : w.heap.size ≤ w5.heap.size := Nat.le_trans (HBL.out HF3.out).size HB35.out.size
      have hI6 : IxP w6 w.heap.size X R k W sc := ⟨_, Hb, V, hX, ((HO3.out.other (w' := w5) (fun g _ hg => HB35.out.block g hg)).other (fun g _ hg => hb6.block g hg)).low hCl, hHt.low hlow, by omega, by omega⟩
      have HI6 : Hid (IxP w6 w.heap.size X R k W sc) := hI6
      have hFw6 := HF3.out.trans ((RrF.of HB35.out).trans (RrF.of hb6))
      have HB6 : Hid (Below w.heap.size w w6) := HBL.out hFw6
      have hhead : (headB k W sc R).length ≤ 500000000 := by
        have h1 := refs_len R (fun x hx => (HRQ.out x hx).2)
        have h2 : (optB8 k W sc).length = 10 := by unfold optB8; simp only [List.length_append, wrB_len]
        have h3 : (mark4 : List UInt8).length = 4 := rfl
        unfold headB
        rw [List.length_append, List.length_append, List.length_append, h2, h3, wrB_len]
        omega
      have c7 := Save_any R w.heap.size X k W sc w6 hk1 hk2 hW1 hW2 hscl (fun x hx => (hRf x hx).1) (by omega) hsum hhead hI6
      clear hX hHt hI6 c6 hhead
      go_wp2_with fail
      refine c7.mono ?_
      rintro e w7 ⟨H, hH, rfl, hb7⟩
      have HIX : Hid (IxP w7 w.heap.size X R k W sc) := HI6.out.kept (fun g hg => hb7.block g hg)
      have HB7 : Hid (Below w.heap.size w w7) := HB6.out.trans (hb7.mono HB6.out.size)
      have HHS : Hid (HsP (tabN k W R R.length) H) := hH
      obtain ⟨sv, hsv⟩ : ∃ sv : ByteArray, sv = ⟨(saveB k W sc R H).toArray⟩ := ⟨_, rfl⟩
      have HSV : Hid (sv.data.toList = saveB k W sc R H) := by show _ = _; rw [hsv]
      rw [← hsv]
      clear hsv hb7 hH c7
      by_cases heq : sv = s
      · have HTE : Hid (saveB k W sc R H = T) := by show _ = _; rw [← HSV.out, HT.out, heq]
        subst heq
        go_wp2_with fail
        go_ret2
        exact HOUT.out _ _ HB7.out (Or.inl ⟨X, H, rfl, ho, HRE.out, HHS.out, HTE.out, HIX.out⟩)
      · have HTE : Hid (∀ H', HsP (tabN k W R R.length) H' → saveB k W sc R H' ≠ T) := by
          intro H' hH' he
          rw [hH'.uniq HHS.out] at he
          refine heq ?_
          apply ByteArray.ext
          apply Array.toList_inj.1
          rw [HSV.out, he, HT.out]
        have hne : (sv.toList == s.toList) = false := by rw [beq_eq_false_iff_ne]; exact fun h => heq (ba_inj h)
        go_wp2_with fail
        go_ret2
        exact HOUT.out _ _ HB7.out (Or.inr ⟨rfl, fun _ _ => HTE.out⟩)
    · have HRE : Hid (refsE R ≠ 0) := hre
      have hreI : (refsE R == 0) = false := by rw [beq_eq_false_iff_ne]; exact hre
      obtain ⟨rz, hrz⟩ : ∃ rz, rz = refsE R := ⟨_, rfl⟩
      rw [← hrz] at hreI ⊢
      have HB5 : Hid (Below w.heap.size w w5) := HBL.out (HF3.out.trans (RrF.of HB35.out))
      clear hrz hre
      go_wp2_with fail
      go_ret2
      exact HOUT.out _ _ HB5.out (Or.inr ⟨rfl, fun _ h => absurd h HRE.out⟩)
end Go.Proofs.YtilcmkiihefkkabGreatDoor.Mn
end
section
set_option linter.unusedVariables false
set_option linter.unusedSimpArgs false
set_option maxRecDepth 100000
namespace Go.Proofs.YtilcmkiihefkkabGreatDoor.Mn
open Go.RowKit
theorem rd_wr (n k : Nat) (Y : List UInt8) (h : n < 256 ^ k) : rdB ((wrB n k ++ Y).take k) = n ∧ (wrB n k ++ Y).drop k = Y := by
  have hl := wrB_len k n
  constructor
  · rw [List.take_append_of_le_length (by omega), List.take_of_length_le (by omega), rdB_wrB, Nat.mod_eq_of_lt h]
  · rw [List.drop_append_of_le_length (by omega), List.drop_eq_nil_of_le (by omega), List.nil_append]
theorem rd_ref (x : S2) (Y : List UInt8) (hn : x.n.size ≤ 255) (hb : x.b.size < 65536) : rfX (refB x ++ Y) = x ∧ rfR (refB x ++ Y) = Y := by
  obtain ⟨n, b⟩ := x
  simp only at hn hb
  have e : refB ⟨n, b⟩ ++ Y = wrB n.size 1 ++ (n.data.toList ++ (wrB b.size 2 ++ (b.data.toList ++ Y))) := by
    unfold refB
    simp only [List.append_assoc]
  have hnl : n.data.toList.length = n.size := rfl
  have hbl : b.data.toList.length = b.size := rfl
  have h1 := rd_wr n.size 1 (n.data.toList ++ (wrB b.size 2 ++ (b.data.toList ++ Y))) (by omega)
  have h2 := rd_wr b.size 2 (b.data.toList ++ Y) (by omega)
  have eL : rfL (refB ⟨n, b⟩ ++ Y) = wrB b.size 2 ++ (b.data.toList ++ Y) := by
    unfold rfL
    rw [e, h1.1, h1.2, List.drop_append_of_le_length (by omega), List.drop_eq_nil_of_le (by omega), List.nil_append]
  have eN : rfN (refB ⟨n, b⟩ ++ Y) = n.data.toList := by
    unfold rfN
    rw [e, h1.1, h1.2, List.take_append_of_le_length (by omega), List.take_of_length_le (by omega)]
  have eB : rfB (refB ⟨n, b⟩ ++ Y) = b.data.toList := by
    unfold rfB
    rw [eL, h2.1, h2.2, List.take_append_of_le_length (by omega), List.take_of_length_le (by omega)]
  constructor
  · unfold rfX
    rw [eN, eB]
  · unfold rfR
    rw [eL, h2.1, h2.2, List.drop_append_of_le_length (by omega), List.drop_eq_nil_of_le (by omega), List.nil_append]
theorem rds_refs : ∀ (R acc : List S2) (Y : List UInt8), (∀ x ∈ R, RfQ x ∧ x.b.size < 65536) → (acc ++ R).Pairwise (fun x y => x.n ≠ y.n) → RdsP R.length (R.flatMap refB ++ Y) acc (acc ++ R)
  | [], acc, Y, _, _ => by simp [RdsP]
  | x :: t, acc, Y, hq, hp => by
    have hx := hq x (List.mem_cons_self)
    have e : (x :: t).flatMap refB ++ Y = refB x ++ (t.flatMap refB ++ Y) := by rw [List.flatMap_cons, List.append_assoc]
    have hr := rd_ref x (t.flatMap refB ++ Y) hx.1.2 hx.2
    rw [e]
    refine Or.inl ⟨?_, ?_, ?_⟩
    · show (parseR (rfT (rfX _))).1 = [rfX _]
      rw [hr.1]
      exact hx.1.1
    · rw [hr.1]
      rintro ⟨y, hy, hyn⟩
      rw [List.pairwise_append] at hp
      exact hp.2.2 y hy x (List.mem_cons_self) hyn
    · rw [hr.1, hr.2]
      have := rds_refs t (acc ++ [x]) Y (fun y hy => hq y (List.mem_cons_of_mem _ hy)) (by rw [List.append_assoc]; exact hp)
      rw [List.append_assoc] at this
      exact this
/-- what is written is read again -/
theorem head_read (k W sc : Nat) (R : List S2) (Y : List UInt8) (hk : k < 256) (hW : W < 256) (hsc : sc < 18446744073709551616) (hRl : R.length < 65536) (hq : ∀ x ∈ R, RfQ x ∧ x.b.size < 65536) (hp : R.Pairwise (fun x y => x.n ≠ y.n)) :
    roK ((headB k W sc R ++ Y).drop 4) = k ∧ roW ((headB k W sc R ++ Y).drop 4) = W ∧ roS ((headB k W sc R ++ Y).drop 4) = sc ∧ RdsP (rdB (((headB k W sc R ++ Y).drop 14).take 2)) ((headB k W sc R ++ Y).drop 16) [] R := by
  obtain ⟨Z, hZ⟩ : ∃ Z, Z = R.flatMap refB ++ Y := ⟨_, rfl⟩
  have e : headB k W sc R ++ Y = mark4 ++ (wrB k 1 ++ (wrB W 1 ++ (wrB sc 8 ++ (wrB R.length 2 ++ Z)))) := by
    unfold headB optB8
    rw [hZ]
    simp only [List.append_assoc]
  have d4 : (headB k W sc R ++ Y).drop 4 = wrB k 1 ++ (wrB W 1 ++ (wrB sc 8 ++ (wrB R.length 2 ++ Z))) := by rw [e]; rfl
  have h1 := rd_wr k 1 (wrB W 1 ++ (wrB sc 8 ++ (wrB R.length 2 ++ Z))) (by omega)
  have h2 := rd_wr W 1 (wrB sc 8 ++ (wrB R.length 2 ++ Z)) (by omega)
  have h3 := rd_wr sc 8 (wrB R.length 2 ++ Z) (by omega)
  have h4 := rd_wr R.length 2 Z (by omega)
  have d5 : ((headB k W sc R ++ Y).drop 4).drop 1 = wrB W 1 ++ (wrB sc 8 ++ (wrB R.length 2 ++ Z)) := by rw [d4]; exact h1.2
  have d6 : ((headB k W sc R ++ Y).drop 4).drop 2 = wrB sc 8 ++ (wrB R.length 2 ++ Z) := by
    rw [show (2 : Nat) = 1 + 1 from rfl, ← List.drop_drop, d5]; exact h2.2
  have d14 : (headB k W sc R ++ Y).drop 14 = wrB R.length 2 ++ Z := by
    rw [show (14 : Nat) = 4 + 2 + 8 from rfl, ← List.drop_drop, ← List.drop_drop, d6]; exact h3.2
  have d16 : (headB k W sc R ++ Y).drop 16 = Z := by
    rw [show (16 : Nat) = 14 + 2 from rfl, ← List.drop_drop, d14]; exact h4.2
  refine ⟨?_, ?_, ?_, ?_⟩
  · unfold roK; rw [d4]; exact h1.1
  · unfold roW; rw [d5]; exact h2.1
  · unfold roS; rw [d6]; exact h3.1
  · rw [d14, d16, h4.1, hZ]
    have := rds_refs R [] Y hq (by simpa using hp)
    simpa using this
/-- loading what was saved: with the tail that was written, the index comes again; with any other, it does not -/
theorem load_head {k W sc : Nat} {R : List S2} {H : List Int} {Y : List UInt8} {w w' : World} {e : Ending} (hk : k < 256) (hW : W < 256) (hsc : sc < 18446744073709551616) (hRl : R.length < 65536) (hq : ∀ x ∈ R, RfQ x ∧ x.b.size < 65536) (hp : R.Pairwise (fun x y => x.n ≠ y.n))
    (ho : optB k W sc = true) (hr : refsE R = 0) (hH : HsP (tabN k W R R.length) H) (h : LdP (headB k W sc R ++ Y) w e w') :
    Below w.heap.size w w' ∧ ((headB k W sc R ++ Y = saveB k W sc R H ∧ ∃ X, e = .returned (.tuple #[.pointer (some ⟨X, 0, none⟩), .int .i64 0]) ∧ IxP w' w.heap.size X R k W sc) ∨ (headB k W sc R ++ Y ≠ saveB k W sc R H ∧ e = .returned (.tuple #[.pointer none, .int .i64 8]))) := by
  obtain ⟨R', hR', hb, h⟩ := h
  obtain ⟨h1, h2, h3, h4⟩ := head_read k W sc R Y hk hW hsc hRl hq hp
  have e' : R' = R := RdsP.uniq _ _ _ _ _ hR' h4
  subst e'
  rw [h1, h2, h3] at h
  refine ⟨hb, ?_⟩
  rcases h with ⟨X, H', he, _, _, hH', hs, hI⟩ | ⟨he, hne⟩
  · rw [hH'.uniq hH] at hs
    exact Or.inl ⟨hs.symm, X, he, hI⟩
  · exact Or.inr ⟨fun h => hne ho hr H hH h.symm, he⟩
end Go.Proofs.YtilcmkiihefkkabGreatDoor.Mn
end
