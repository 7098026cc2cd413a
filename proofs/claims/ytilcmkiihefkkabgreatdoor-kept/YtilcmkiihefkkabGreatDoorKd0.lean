import Derived.Test.YtilcmkiihefkkabGreatDoorJk42
section
set_option linter.unusedVariables false
set_option linter.unusedSimpArgs false
set_option maxRecDepth 100000
namespace Go.Proofs.YtilcmkiihefkkabGreatDoor.Mn
open Go.RowKit Go.Maps
/-- what Save answers -/
def SvP (R : List S2) (k W sc : Nat) (w : World) (e : Ending) (w' : World) : Prop :=
  ∃ H, HsP (tabN k W R R.length) H ∧ e = .returned (.string ⟨(saveB k W sc R H).toArray⟩) ∧ Below w.heap.size w w'
set_option maxHeartbeats 8000000 in
theorem Save_any (R : List S2) (base X k W sc : Nat) (w : World) (hk1 : 1 ≤ k) (hk2 : k ≤ 12) (hW : 1 ≤ W) (hW2 : W ≤ 20) (hsc : sc < 18446744073709551616) (hR : ∀ x ∈ R, good x.b) (hRl : R.length < 100000) (hsum : sumN R R.length ≤ 4000) (hhead : (headB k W sc R).length ≤ 500000000) (hI : IxP w base X R k W sc) :
    Calls Tryz.prog 9 #[.pointer (some ⟨X, 0, none⟩)] w fun e w' => SvP R k W sc w e w' := by
  obtain ⟨rv, Hb, V, hX, hO, hT, _, _⟩ := hI
  obtain ⟨D, hD, h1, h2, h3⟩ := hT.map
  obtain ⟨T, hTe⟩ : ∃ T, T = tabN k W R R.length := ⟨_, rfl⟩
  have hTO := tab_small hk1 hk2 hW R hR hsum hRl
  have hTl := tabN_len hk1 hk2 hW R hR R.length (Nat.le_refl _)
  have hTh := tab_hash hk1 hk2 hW R hR
  rw [← hTe] at h2 hTO hTl hTh
  have hVo := hT.own
  rw [← hTe] at hVo
  have HTE : Hid (T = tabN k W R R.length) := hTe
  obtain ⟨n, hn⟩ : ∃ n, n = R.length := ⟨_, rfl⟩
  rw [← hn] at hO hRl
  have HN : Hid (n = R.length) := hn
  have hXl := lt_of_block hX
  have HX : Hid _ := hX
  have HD : Hid (w.ownsMap Tryz.prog 3 rawR Hb 4000 D) := hD
  have H1 := (show Hid _ from h1)
  have H2 := (show Hid _ from h2)
  have H3 := (show Hid _ from h3)
  have HV := (show Hid _ from hVo)
  have HTO : Hid _ := hTO
  have HTL := (show Hid _ from hTl)
  have HTH := (show Hid _ from hTh)
  have HHD : Hid _ := hhead
  have hDl : Maps.size D ≤ 4000 := hD.size_le
  obtain ⟨ao, cp, rfl⟩ := hO.form
  have HO : Hid (OwnR w base 62 2 (.slice ao n cp) n (qcells R)) := hO
  have hHbl := hD.lt
  obtain ⟨wA, hwA⟩ : ∃ W1 : World, W1 = w.alloc (Obj.cells #[.slice none 0 0] 54) := ⟨_, rfl⟩
  have hbA : Below w.heap.size w wA := by rw [hwA]; exact (Below.refl _ _).alloc (Nat.le_refl _) _
  have hnA : wA.heap[w.heap.size]? = some (.cells #[.slice none 0 0] 54 (0, 0)) := by rw [hwA]; exact heap_alloc_new w _
  have hW0 : WrP wA w.heap.size w.heap.size [] := ⟨_, hnA, ⟨by simp [Lib.byteCells], Or.inl ⟨rfl, rfl⟩⟩, Nat.le_refl _⟩
  have HBA : Hid (Below w.heap.size w wA) := hbA
  have hxk : ∀ {w' : World}, Below w.heap.size wA w' → w'.heap[X]? = some (.cells (ixC k W sc (.slice ao n cp) (.map (some Hb))) 59 (0, 0)) := fun h' => (h'.block X hXl).trans ((hbA.block X hXl).trans HX.out)
  have HXK := (show Hid _ from @hxk)
  have c1 := wtext_any ⟨#[80, 76, 71, 82]⟩ [] w.heap.size w.heap.size wA hW0 (by decide)
  clear hX hO hT hTe hn hD h1 h2 h3 hVo hTO hTl hTh hhead hnA hW0 hxk hbA
  go_enter Tryz.func9, Tryz.ntmps9
  go_wp2_with fail
  rw [← hwA]
  clear hwA
  refine c1.mono ?_
  rintro e w1 ⟨rfl, hW1⟩
  have q0 : w1.cell? ⟨X, 0, none⟩ = some (.int .i64 k) := cell_at (HXK.out hW1.bl) (i := 0) rfl
  have q1 : w1.cell? ⟨X, 1, none⟩ = some (.int .i64 W) := cell_at (HXK.out hW1.bl) (i := 1) rfl
  have q2 : w1.cell? ⟨X, 2, none⟩ = some (.float .f64 sc) := cell_at (HXK.out hW1.bl) (i := 2) rfl
  have c2 := woptions_any k W sc mark4 w.heap.size w.heap.size w1 hW1.wp (by omega) (by omega) hsc (by decide)
  have HW1 : Hid (Wrote w.heap.size w.heap.size mark4 wA w1) := hW1
  clear hW1 c1
  go_wp2_with fail
  refine c2.mono ?_
  rintro e w2 ⟨rfl, hW2⟩
  have hW2' := HW1.out.trans hW2
  clear q0 q1 q2
  have q1 : w2.cell? ⟨X, 3, none⟩ = some (.slice ao n cp) := cell_at (HXK.out hW2'.bl) (i := 3) rfl
  have hol : (optB8 k W sc).length = 10 := by unfold optB8; simp only [List.length_append, wrB_len]
  have hml : (mark4 : List UInt8).length = 4 := rfl
  have c3 := wnumber_any n 2 (mark4 ++ optB8 k W sc) w.heap.size w.heap.size w2 hW2.wp (by omega) (by omega) (by rw [List.length_append, hol, hml]; omega)
  have HW2 : Hid (Wrote w.heap.size w.heap.size (mark4 ++ optB8 k W sc) wA w2) := hW2'
  clear hW2 hW2' c2 HW1
  go_wp2_with fail
  refine c3.mono ?_
  rintro e w3 ⟨rfl, hW3⟩
  have hW3' := HW2.out.trans hW3
  clear q1
  have q1 : w3.cell? ⟨X, 3, none⟩ = some (.slice ao n cp) := cell_at (HXK.out hW3'.bl) (i := 3) rfl
  obtain ⟨h4, hh4⟩ : ∃ h4, h4 = mark4 ++ optB8 k W sc ++ wrB n 2 := ⟨_, rfl⟩
  have hh4l : h4.length = 16 := by rw [hh4, List.length_append, List.length_append, hol, hml, wrB_len]
  rw [← hh4] at hW3'
  have HH4 : Hid (headB k W sc R = h4 ++ R.flatMap refB) := by show _ = _; rw [hh4, HN.out]; rfl
  have HW3 : Hid (Wrote w.heap.size w.heap.size h4 wA w3) := hW3'
  have hfl : (R.flatMap refB).length ≤ 499999984 := by have := HHD.out; rw [HH4.out, List.length_append] at this; omega
  clear hW3 hW3' c3 HW2 hol hml hh4
  have hsh : n ≠ 0 → ∃ g o, ao = some ⟨g, o, none⟩ ∧ g < w.heap.size := by
    intro h0
    rcases HO.out.2 with ⟨_, h'⟩ | ⟨g, o, cap, cur, h, _, hg, _⟩
    · exact absurd h' h0
    · simp only [Value.slice.injEq] at h
      exact ⟨g, o, h.1, lt_of_block hg⟩
  have HSH : Hid _ := hsh
  clear hsh
  go_wp2_with fail
  go_loopw [27] (fun i wr => ∃ j : Nat, j ≤ n ∧ i = .int .i64 j ∧ Wrote w.heap.size w.heap.size (h4 ++ (R.take j).flatMap refB) wA wr) (fun i _ => n - (RowKit.intOf i).toNat)
  case atStart => exact ⟨0, Nat.zero_le _, rfl, by simpa using HW3.out⟩
  case round =>
    obtain ⟨j, hj, rfl, hW⟩ := hrel
    have HWj : Hid _ := hW
    clear hW
    by_cases hlt : j < n
    · obtain ⟨g, o, rfl, hgl⟩ := HSH.out (by omega)
      have hjR : j < R.length := by have := HN.out; omega
      have hbw : Below w.heap.size w wr := HBA.out.trans HWj.out.bl
      have hc := (HO.out.other (w' := wr) (fun g' _ hlt' => hbw.block g' hlt')).seqs j hjR
      obtain ⟨x, hx⟩ : ∃ x, x = R[j] := ⟨_, rfl⟩
      rw [← hx] at hc
      obtain ⟨d0, d1⟩ := hc
      have HTK : Hid ((R.take (j + 1)).flatMap refB = (R.take j).flatMap refB ++ refB x) := by
        show _ = _
        rw [List.take_add_one, List.getElem?_eq_getElem hjR, List.flatMap_append, hx]
        simp
      have hrl : (refB x).length = x.n.size + x.b.size + 3 := by
        unfold refB
        rw [List.length_append, List.length_append, List.length_append, wrB_len, wrB_len]
        show 1 + x.n.size + 2 + x.b.size = _
        omega
      have hl1 := flat_take_len refB R (j + 1)
      rw [HTK.out, List.length_append, hrl] at hl1
      have hbA2 : Below wr.heap.size wr (wr.alloc (Obj.cells #[.string x.n, .string x.b] 62)) := (Below.refl _ _).alloc (Nat.le_refl _) _
      have hWA := HWj.out.more hbA2
      have hnA : (wr.alloc (Obj.cells #[.string x.n, .string x.b] 62)).heap[wr.heap.size]? = some (.cells #[.string x.n, .string x.b] 62 (0, 0)) := heap_alloc_new wr _
      have c5 := wreference_any x _ w.heap.size w.heap.size _ hWA.wp (by rw [List.length_append, hh4l]; omega)
      have HWA : Hid _ := hWA
      clear hx hWA hbA2 hl1 hrl hnA hbw
      go_wp2_with fail
      refine c5.mono ?_
      rintro e w5 ⟨rfl, hW5⟩
      have HW5 : Hid _ := HWA.out.trans hW5
      clear c5 hW5 HWA
      go_wp2
      go_roundw
      case rel =>
        refine ⟨j + 1, by omega, by go_num, ?_⟩
        rw [HTK.out, ← List.append_assoc]
        exact HW5.out
      case measure => simp [RowKit.intOf]; omega
    · have hjn : j = n := by omega
      subst hjn
      have HWh : Hid (Wrote w.heap.size w.heap.size (headB k W sc R) wA wr) := by
        have := HWj.out
        rw [HN.out, List.take_length, ← HH4.out] at this
        exact this
      have hbw : Below w.heap.size w wr := HBA.out.trans HWh.out.bl
      have q4 : wr.cell? ⟨X, 4, none⟩ = some (.map (some Hb)) := cell_at (HXK.out HWh.out.bl) (i := 4) rfl
      have hDr : wr.ownsMap Tryz.prog 3 rawR Hb 4000 D := ownsMap_at HD.out (hbw.block Hb hHbl)
      have hhl := HHD.out
      have c6 := wnumber_any (Maps.size D) 2 (headB k W sc R) w.heap.size w.heap.size wr HWh.out.wp (by omega) (by omega) (by omega)
      clear q1 HWj HSH HW3
      go_wp2_with (at_len; refine wpList_len_own _ rfl _ 57 rfl 3 41 Tryz.underlying57 rawR Hb 4000 D rfl hDr ?_)
      refine c6.mono ?_
      rintro e w6 ⟨rfl, hW6⟩
      have hW6' := HWh.out.trans hW6
      have hbw6 : Below w.heap.size w w6 := HBA.out.trans hW6'.bl
      have c7 := entries_any T V D X Hb base k W sc (.slice ao j cp) w6 (HXK.out hW6'.bl) (ownsMap_at HD.out (hbw6.block Hb hHbl)) H1.out H2.out H3.out (fun x hx => (HV.out x hx).other (fun g hg hgl => hbw6.block g hgl)) HTH.out
      have HW6 : Hid (Wrote w.heap.size w.heap.size (headB k W sc R ++ wrB (Maps.size D) 2) wA w6) := hW6'
      clear hW6 hW6' c6 HWh hbw hDr q4
      go_wp2_with fail
      refine c7.mono ?_
      rintro e w7 ⟨ev, E, rfl, hb7, hE, hsrt, hmem, hEm, hEl⟩
      obtain ⟨eo, ec, rfl⟩ := hE.form
      obtain ⟨H, hH⟩ : ∃ H, H = E.map hk := ⟨_, rfl⟩
      have hHl : H.length = E.length := by rw [hH, List.length_map]
      obtain ⟨m, hm⟩ : ∃ m, m = E.length := ⟨_, rfl⟩
      have hHs : HsP T H := by
        refine ⟨by rw [hH, List.pairwise_map]; exact hsrt, fun h => ?_⟩
        rw [hH, List.mem_map]
        constructor
        · rintro ⟨a, ha, rfl⟩; exact (hmem a).1 ha
        · intro hne
          have hb := HTH.out h hne
          have ea : hk (⟨h.toNat, by omega⟩ : Ek) = h := by unfold hk; simp; omega
          exact ⟨⟨h.toNat, by omega⟩, (hmem _).2 (by rw [ea]; exact hne), ea⟩
      have HHS : Hid (HsP T H) := hHs
      have HEH : Hid (H = E.map hk) := hH
      have HHL : Hid (H.length = m) := hHl.trans hm.symm
      have HEL : Hid (E.length = m) := hm.symm
      rw [← hm] at hE hEm hEl ⊢
      have HEM : Hid (m = Maps.size D) := hEm
      have HE : Hid (OwnR w7 w6.heap.size 67 2 (.slice eo m ec) m (E.flatMap (encE V))) := hE
      have hb67 : Below w.heap.size w w7 := hbw6.trans (hb7.mono (by have := HW6.out.wp.lt; omega))
      obtain ⟨hd, hhd⟩ : ∃ hd, hd = headB k W sc R ++ wrB (Maps.size D) 2 := ⟨_, rfl⟩
      have hdl : hd.length ≤ 500000002 := by rw [hhd, List.length_append, wrB_len]; omega
      have HW7 : Hid (Wrote w.heap.size w.heap.size hd w7 w7) := Wrote.refl (by rw [hhd]; exact HW6.out.wp.kept hb7)
      have HHD2 : Hid (hd = headB k W sc R ++ wrB (Maps.size D) 2) := hhd
      have HB67 : Hid (Below w.heap.size w w7) := hb67
      have HVR : Hid (∀ x, okI x → ∃ a c, V x = .slice a (T x).length c ∧ RdH w7 a (T x)) := by
        intro x hx
        obtain ⟨a, c, hf⟩ := (HV.out x hx).form
        have h' := (HV.out x hx).other (w' := w7) (fun g hg hgl => hb67.block g hgl)
        rw [hf] at h'
        exact ⟨a, c, hf, RdH.of h'⟩
      clear hE hsrt hmem hEm hHs hH hHl hm c7 HW6 hbw6 hb7 hb67 hhd hhl
      go_wp2_with fail
      go_loopw [43, 6] (fun i lv wr => ∃ j : Nat, j ≤ m ∧ i = .int .i64 j ∧ lv = .int .i64 ((H.take j).getLastD 0) ∧ Wrote w.heap.size w.heap.size (hd ++ entB T 0 (H.take j)) w7 wr) (fun i _ _ => m - (RowKit.intOf i).toNat)
      case atStart => exact ⟨0, Nat.zero_le _, rfl, rfl, by simpa [entB] using HW7.out⟩
      case round =>
        obtain ⟨q, hq, rfl, rfl, hW⟩ := hrel
        have HWq : Hid _ := hW
        clear hW
        by_cases hlt : q < m
        · have hqE : q < E.length := by have := HEL.out; omega
          have hqH : q < H.length := by have := HHL.out; omega
          obtain ⟨g, o, cur, hge, hg7, hcE⟩ : ∃ g o cur, eo = some ⟨g, o, none⟩ ∧ w7.heap[g]? = some (.cells cur 67 (0, 0)) ∧ ∀ j u, (E.flatMap (encE V))[j]? = some u → cur[o + j]? = some u := by
            rcases HE.out.2 with ⟨_, h'⟩ | ⟨g, o, cap, cur, h, _, hg, _, _, _, hc⟩
            · omega
            · simp only [Value.slice.injEq] at h
              exact ⟨g, o, cur, h.1, hg, hc⟩
          subst hge
          have hgr : wr.heap[g]? = some (.cells cur 67 (0, 0)) := (HWq.out.kp g (fun cs h' => by rw [hg7] at h'; simp at h') (fun cs h' => by rw [hg7] at h'; simp at h') (lt_of_block hg7)).trans hg7
          obtain ⟨d0, d1⟩ := entry_cells V E g o cur wr hgr hcE q hqE
          have eH : H[q] = hk E[q] := by simp [HEH.out]
          rw [← eH] at d0 d1
          have hlast := last_le T H HHS.out HTH.out q hqH
          have HTK := (show Hid _ from entB_take T H q hqH)
          have HLS := (show Hid _ from take_last H q hqH)
          obtain ⟨x, hx⟩ : ∃ x, x = H[q] := ⟨_, rfl⟩
          obtain ⟨l, hl⟩ : ∃ l, l = (H.take q).getLastD 0 := ⟨_, rfl⟩
          rw [← hx] at d0 d1 hlast HTK HLS
          rw [← hl] at hlast HTK ⊢
          have hox : okI x := okI_of (by omega) hlast.2.2
          obtain ⟨va, vc, hvx, hrd⟩ := HVR.out x hox
          obtain ⟨t, ht⟩ : ∃ t, t = (T x).length := ⟨_, rfl⟩
          have hTx := HTL.out x
          rw [← ht] at hvx hTx
          rw [hvx] at d1
          obtain ⟨M, hM⟩ : ∃ M, M = hd ++ entB T 0 (H.take q) := ⟨_, rfl⟩
          have hMl : M.length ≤ 500000002 + 80000000 := by
            have h1 := entB_len T (fun h => Nat.le_trans (HTL.out h) hsum) (H.take q) 0
            rw [List.length_take] at h1
            have h2 := Nat.mul_le_mul_right 20000 (show min q H.length ≤ 4000 by omega)
            rw [hM, List.length_append]
            omega
          have HM : Hid (M = hd ++ entB T 0 (H.take q)) := hM
          have HWM : Hid (Wrote w.heap.size w.heap.size M w7 wr) := by rw [hM]; exact HWq.out
          obtain ⟨wB, hwB⟩ : ∃ W1 : World, W1 = wr.alloc (Obj.cells #[.int .i64 x, .slice va t vc] 67) := ⟨_, rfl⟩
          have hbB : Below wr.heap.size wr wB := by rw [hwB]; exact (Below.refl _ _).alloc (Nat.le_refl _) _
          have hnB : wB.heap[wr.heap.size]? = some (.cells #[.int .i64 x, .slice va t vc] 67 (0, 0)) := by rw [hwB]; exact heap_alloc_new wr _
          have hWB := HWM.out.more hbB
          have hkB : ∀ {w' : World}, WrK wB w' → w'.heap[wr.heap.size]? = some (.cells #[.int .i64 x, .slice va t vc] 67 (0, 0)) := fun h' => (h' _ (fun cs hc => by rw [hnB] at hc; simp at hc) (fun cs hc => by rw [hnB] at hc; simp at hc) (lt_of_block hnB)).trans hnB
          obtain ⟨df, hdf⟩ : ∃ df : Nat, x - l = df := ⟨(x - l).toNat, by omega⟩
          have hwr : IntKind.i64.wrap (x - l) = df := by rw [IntKind.wrap_i64]; omega
          have c8 := wnumber_any df 3 M w.heap.size w.heap.size wB hWB.wp (by omega) (by omega) (by omega)
          have q0 : wB.cell? ⟨wr.heap.size, 0, none⟩ = some (.int .i64 x) := cell_at hnB rfl
          have HKB := (show Hid _ from @hkB)
          have HWB : Hid _ := hWB
          have HRD : Hid (RdH w7 va (T x)) := hrd
          have HT' : Hid ((T x).length = t) := ht.symm
          have HDF : Hid ((x - l).toNat = df) := by show _ = _; omega
          clear hkB hbB hnB hWB hx hl ht hM hvx hgr hg7 hcE hrd eH
          go_wp2_with fail
          rw [← hwB]
          clear hwB d0 d1 hwr
          refine c8.mono ?_
          rintro e w8 ⟨rfl, hW8⟩
          have q1 : w8.cell? ⟨wr.heap.size, 1, none⟩ = some (.slice va t vc) := cell_at (HKB.out hW8.kp) rfl
          have hW8' := HWB.out.trans hW8
          have c9 := whits_any (T x) t HT'.out va vc (M ++ wrB df 3) w.heap.size w.heap.size w8 hW8.wp (HTO.out x) (HRD.out.kept hW8'.kp) (by omega) (by rw [List.length_append, wrB_len]; omega)
          have HW8 : Hid (Wrote w.heap.size w.heap.size (M ++ wrB df 3) wB w8) := hW8
          clear hW8 hW8' c8 q0
          go_wp2_with fail
          refine c9.mono ?_
          rintro e w9 ⟨rfl, hW9⟩
          have hW89 := HW8.out.trans hW9
          have q2 : w9.cell? ⟨wr.heap.size, 0, none⟩ = some (.int .i64 x) := cell_at (HKB.out hW89.kp) rfl
          have HW9 : Hid _ := HWB.out.trans hW89
          clear hW9 hW89 c9 q1 HW8 HWB
          go_wp2_with fail
          go_roundw
          case rel =>
            refine ⟨q + 1, by omega, by go_num, by rw [HLS.out], ?_⟩
            rw [HTK.out, HDF.out, ← List.append_assoc, ← List.append_assoc, ← HM.out]
            exact HW9.out
          case measure => simp [RowKit.intOf]; omega
        · have hqm : q = m := by omega
          obtain ⟨M, hM⟩ : ∃ M, M = hd ++ entB T 0 H := ⟨_, rfl⟩
          have hWM : Wrote w.heap.size w.heap.size M w7 wr := by
            have := HWq.out
            rw [hqm, ← HHL.out, List.take_length, ← hM] at this
            exact this
          have HSV : Hid (M = saveB k W sc R H) := by
            show _ = _
            rw [hM, HHD2.out, ← HEM.out, ← HHL.out, HTE.out]
            rfl
          have HHS2 : Hid (HsP (tabN k W R R.length) H) := by
            have := HHS.out
            rw [HTE.out] at this
            exact this
          obtain ⟨v, hvB, hvo, _⟩ := hWM.wp
          have q0 : wr.cell? ⟨w.heap.size, 0, none⟩ = some v := cell_at hvB rfl
          obtain ⟨va, vc, rfl⟩ := row_form hvo
          have hcv := bytes_text rfl (w := wr) (OwnR.of_ownsRow hvo (Nat.le_refl _))
          have HBW : Hid (Below w.heap.size w wr) := HB67.out.trans hWM.bl
          clear hvB hvo hWM hM
          go_wp2_with fail
          go_ret
          exact ⟨H, HHS2.out, by rw [HSV.out]; rfl, HBW.out⟩
end Go.Proofs.YtilcmkiihefkkabGreatDoor.Mn
end
