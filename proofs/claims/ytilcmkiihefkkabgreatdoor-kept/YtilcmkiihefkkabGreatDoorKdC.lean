import Derived.Test.YtilcmkiihefkkabGreatDoorJk25
import Derived.Test.YtilcmkiihefkkabGreatDoorJk26
import Derived.Test.YtilcmkiihefkkabGreatDoorJk42
import Derived.Test.YtilcmkiihefkkabGreatDoorKd5
import Derived.Test.YtilcmkiihefkkabGreatDoorKdB
section
set_option linter.unusedVariables false
set_option linter.unusedSimpArgs false
set_option maxRecDepth 100000
namespace Go.Proofs.YtilcmkiihefkkabGreatDoor.Mn
open Go.RowKit Go.Maps
/-- what Save answers -/
def SvP (R : List S2) (k W sc : Nat) (w : World) (e : Ending) (w' : World) : Prop :=
  ∃ H, HsP (tabN k W R R.length) H ∧ e = .returned (.string ⟨(saveB k W sc R H).toArray⟩) ∧ Below w.heap.size w w'
set_option maxHeartbeats 8000000 in
theorem Save_any (R : List S2) (base X k W sc : Nat) (w : World) (hk1 : 1 ≤ k) (hk2 : k ≤ 12) (hW : 1 ≤ W) (hW2 : W ≤ 20) (hsc : sc < 18446744073709551616) (hR : ∀ x ∈ R, good x.b) (hRl : R.length < 100000) (hsum : sumN R R.length ≤ 4000) (hhead : (headB k W sc R).length ≤ 500000000) (hI : IxP w base X R k W sc) :
    Calls Tryz.prog 9 #[.pointer (some ⟨X, 0, none⟩)] w fun e w' => SvP R k W sc w e w' := by
  obtain ⟨rv, Hb, V, hX, hO, hT, _, _⟩ := hI
  obtain ⟨D, hD, h1, h2, h3⟩ := hT.map
  obtain ⟨T, hTe⟩ : ∃ T, T = tabN k W R R.length := ⟨_, rfl⟩
  have hTO := tab_small hk1 hk2 hW R hR hsum hRl
  have hTl := tabN_len hk1 hk2 hW R hR R.length (Nat.le_refl _)
  have hTh := tab_hash hk1 hk2 hW R hR
  rw [← hTe] at h2 hTO hTl hTh
  have hVo := hT.own
  rw [← hTe] at hVo
  have HTE : Hid (T = tabN k W R R.length) := hTe
  obtain ⟨n, hn⟩ : ∃ n, n = R.length := ⟨_, rfl⟩
  rw [← hn] at hO hRl
  have HN : Hid (n = R.length) := hn
  have hXl := lt_of_block hX
  have HX : Hid _ := hX
  have HD : Hid (w.ownsMap Tryz.prog 3 rawR Hb 4000 D) := hD
  have H1 := (show Hid _ from h1)
  have H2 := (show Hid _ from h2)
  have H3 := (show Hid _ from h3)
  have HV := (show Hid _ from hVo)
  have HTO : Hid _ := hTO
  have HTL := (show Hid _ from hTl)
  have HTH := (show Hid _ from hTh)
  have HHD : Hid _ := hhead
  have hDl : Maps.size D ≤ 4000 := hD.size_le
  obtain ⟨ao, cp, rfl⟩ := hO.form
  have HO : Hid (OwnR w base 62 2 (.slice ao n cp) n (qcells R)) := hO
  have hHbl := hD.lt
  obtain ⟨wA, hwA⟩ : ∃ W1 : World, W1 = w.alloc (Obj.cells #[.slice none 0 0] 54) := ⟨_, rfl⟩
  have hbA : Below w.heap.size w wA := by rw [hwA]; exact (Below.refl _ _).alloc (Nat.le_refl _) _
  have hnA : wA.heap[w.heap.size]? = some (.cells #[.slice none 0 0] 54 (0, 0)) := by rw [hwA]; exact heap_alloc_new w _
  have hW0 : WrP wA w.heap.size w.heap.size [] := ⟨_, hnA, ⟨by simp [Lib.byteCells], Or.inl ⟨rfl, rfl⟩⟩, Nat.le_refl _⟩
  have HBA : Hid (Below w.heap.size w wA) := hbA
  have hxk : ∀ {w' : World}, Below w.heap.size wA w' → w'.heap[X]? = some (.cells (ixC k W sc (.slice ao n cp) (.map (some Hb))) 59 (0, 0)) := fun h' => (h'.block X hXl).trans ((hbA.block X hXl).trans HX.out)
  have HXK := (show Hid _ from @hxk)
  have c1 := wtext_any ⟨#[80, 76, 71, 82]⟩ [] w.heap.size w.heap.size wA hW0 (by decide)
  clear hX hO hT hTe hn hD h1 h2 h3 hVo hTO hTl hTh hhead hnA hW0 hxk hbA
  go_enter Tryz.func9, Tryz.ntmps9
  go_wp2_with fail
  rw [← hwA]
  clear hwA
  refine c1.mono ?_
  rintro e w1 ⟨rfl, hW1⟩
  have q0 : w1.cell? ⟨X, 0, none⟩ = some (.int .i64 k) := cell_at (HXK.out hW1.bl) (i := 0) rfl
  have q1 : w1.cell? ⟨X, 1, none⟩ = some (.int .i64 W) := cell_at (HXK.out hW1.bl) (i := 1) rfl
  have q2 : w1.cell? ⟨X, 2, none⟩ = some (.float .f64 sc) := cell_at (HXK.out hW1.bl) (i := 2) rfl
  have c2 := woptions_any k W sc mark4 w.heap.size w.heap.size w1 hW1.wp (by omega) (by omega) hsc (by decide)
  have HW1 : Hid (Wrote w.heap.size w.heap.size mark4 wA w1) := hW1
  clear hW1 c1
  go_wp2_with fail
  refine c2.mono ?_
  rintro e w2 ⟨rfl, hW2⟩
  have hW2' := HW1.out.trans hW2
  clear q0 q1 q2
  have q1 : w2.cell? ⟨X, 3, none⟩ = some (.slice ao n cp) := cell_at (HXK.out hW2'.bl) (i := 3) rfl
  have hol : (optB8 k W sc).length = 10 := by unfold optB8; simp only [List.length_append, wrB_len]
  have hml : (mark4 : List UInt8).length = 4 := rfl
  have c3 := wnumber_any n 2 (mark4 ++ optB8 k W sc) w.heap.size w.heap.size w2 hW2.wp (by omega) (by omega) (by rw [List.length_append, hol, hml]; omega)
  have HW2 : Hid (Wrote w.heap.size w.heap.size (mark4 ++ optB8 k W sc) wA w2) := hW2'
  clear hW2 hW2' c2 HW1
  go_wp2_with fail
  refine c3.mono ?_
  rintro e w3 ⟨rfl, hW3⟩
  have hW3' := HW2.out.trans hW3
  clear q1
  have q1 : w3.cell? ⟨X, 3, none⟩ = some (.slice ao n cp) := cell_at (HXK.out hW3'.bl) (i := 3) rfl
  obtain ⟨h4, hh4⟩ : ∃ h4, h4 = mark4 ++ optB8 k W sc ++ wrB n 2 := ⟨_, rfl⟩
  have hh4l : h4.length = 16 := by rw [hh4, List.length_append, List.length_append, hol, hml, wrB_len]
  rw [← hh4] at hW3'
  have HH4 : Hid (headB k W sc R = h4 ++ R.flatMap refB) := by show _ = _; rw [hh4, HN.out]; rfl
  have HW3 : Hid (Wrote w.heap.size w.heap.size h4 wA w3) := hW3'
  have hfl : (R.flatMap refB).length ≤ 499999984 := by have := HHD.out; rw [HH4.out, List.length_append] at this; omega
  clear hW3 hW3' c3 HW2 hol hml hh4
  have hsh : n ≠ 0 → ∃ g o, ao = some ⟨g, o, none⟩ ∧ g < w.heap.size := by
    intro h0
    rcases HO.out.2 with ⟨_, h'⟩ | ⟨g, o, cap, cur, h, _, hg, _⟩
    · exact absurd h' h0
    · simp only [Value.slice.injEq] at h
      exact ⟨g, o, h.1, lt_of_block hg⟩
  have HSH : Hid _ := hsh
  clear hsh
  go_wp2_with fail
  go_loopw [27] (fun i wr => ∃ j : Nat, j ≤ n ∧ i = .int .i64 j ∧ Wrote w.heap.size w.heap.size (h4 ++ (R.take j).flatMap refB) wA wr) (fun i _ => n - (RowKit.intOf i).toNat)
  case atStart => exact ⟨0, Nat.zero_le _, rfl, by simpa using HW3.out⟩
  case round =>
    obtain ⟨j, hj, rfl, hW⟩ := hrel
    have HWj : Hid _ := hW
    clear hW
    by_cases hlt : j < n
    · obtain ⟨g, o, rfl, hgl⟩ := HSH.out (by omega)
      have hjR : j < R.length := by have := HN.out; omega
      have hbw : Below w.heap.size w wr := HBA.out.trans HWj.out.bl
      have hc := (HO.out.other (w' := wr) (fun g' _ hlt' => hbw.block g' hlt')).seqs j hjR
      obtain ⟨x, hx⟩ : ∃ x, x = R[j] := ⟨_, rfl⟩
      rw [← hx] at hc
      obtain ⟨d0, d1⟩ := hc
      have HTK : Hid ((R.take (j + 1)).flatMap refB = (R.take j).flatMap refB ++ refB x) := by
        show _ = _
        rw [List.take_add_one, List.getElem?_eq_getElem hjR, List.flatMap_append, hx]
        simp
      have hrl : (refB x).length = x.n.size + x.b.size + 3 := by
        unfold refB
        rw [List.length_append, List.length_append, List.length_append, wrB_len, wrB_len]
        show 1 + x.n.size + 2 + x.b.size = _
        omega
      have hl1 := flat_take_len refB R (j + 1)
      rw [HTK.out, List.length_append, hrl] at hl1
      have hbA2 : Below wr.heap.size wr (wr.alloc (Obj.cells #[.string x.n, .string x.b] 62)) := (Below.refl _ _).alloc (Nat.le_refl _) _
      have hWA := HWj.out.more hbA2
      have hnA : (wr.alloc (Obj.cells #[.string x.n, .string x.b] 62)).heap[wr.heap.size]? = some (.cells #[.string x.n, .string x.b] 62 (0, 0)) := heap_alloc_new wr _
      have c5 := wreference_any x _ w.heap.size w.heap.size _ hWA.wp (by rw [List.length_append, hh4l]; omega)
      have HWA : Hid _ := hWA
      clear hx hWA hbA2 hl1 hrl hnA hbw
      go_wp2_with fail
      refine c5.mono ?_
      rintro e w5 ⟨rfl, hW5⟩
      have HW5 : Hid _ := HWA.out.trans hW5
      clear c5 hW5 HWA
      go_wp2
      go_roundw
      case rel =>
        refine ⟨j + 1, by omega, by go_num, ?_⟩
        rw [HTK.out, ← List.append_assoc]
        exact HW5.out
      case measure => simp [RowKit.intOf]; omega
    · have hjn : j = n := by omega
      subst hjn
      have HWh : Hid (Wrote w.heap.size w.heap.size (headB k W sc R) wA wr) := by
        have := HWj.out
        rw [HN.out, List.take_length, ← HH4.out] at this
        exact this
      have hbw : Below w.heap.size w wr := HBA.out.trans HWh.out.bl
      have q4 : wr.cell? ⟨X, 4, none⟩ = some (.map (some Hb)) := cell_at (HXK.out HWh.out.bl) (i := 4) rfl
      have hDr : wr.ownsMap Tryz.prog 3 rawR Hb 4000 D := ownsMap_at HD.out (hbw.block Hb hHbl)
      have hhl := HHD.out
      have c6 := wnumber_any (Maps.size D) 2 (headB k W sc R) w.heap.size w.heap.size wr HWh.out.wp (by omega) (by omega) (by omega)
      clear q1 HWj HSH HW3
      go_wp2_with (at_len; refine wpList_len_own _ rfl _ 57 rfl 3 41 Tryz.underlying57 rawR Hb 4000 D rfl hDr ?_)
      refine c6.mono ?_
      rintro e w6 ⟨rfl, hW6⟩
      have hW6' := HWh.out.trans hW6
      have hbw6 : Below w.heap.size w w6 := HBA.out.trans hW6'.bl
      have c7 := entries_any T V D X Hb base k W sc (.slice ao j cp) w6 (HXK.out hW6'.bl) (ownsMap_at HD.out (hbw6.block Hb hHbl)) H1.out H2.out H3.out (fun x hx => (HV.out x hx).other (fun g hg hgl => hbw6.block g hgl)) HTH.out
      have HW6 : Hid (Wrote w.heap.size w.heap.size (headB k W sc R ++ wrB (Maps.size D) 2) wA w6) := hW6'
      clear hW6 hW6' c6 HWh hbw hDr q4
      go_wp2_with fail
      refine c7.mono ?_
      rintro e w7 ⟨ev, E, rfl, hb7, hE, hsrt, hmem, hEm, hEl⟩
      obtain ⟨eo, ec, rfl⟩ := hE.form
      obtain ⟨H, hH⟩ : ∃ H, H = E.map hk := ⟨_, rfl⟩
      have hHl : H.length = E.length := by rw [hH, List.length_map]
      obtain ⟨m, hm⟩ : ∃ m, m = E.length := ⟨_, rfl⟩
      have hHs : HsP T H := by
        refine ⟨by rw [hH, List.pairwise_map]; exact hsrt, fun h => ?_⟩
        rw [hH, List.mem_map]
        constructor
        · rintro ⟨a, ha, rfl⟩; exact (hmem a).1 ha
        · intro hne
          have hb := HTH.out h hne
          have ea : hk (⟨h.toNat, by omega⟩ : Ek) = h := by unfold hk; simp; omega
          exact ⟨⟨h.toNat, by omega⟩, (hmem _).2 (by rw [ea]; exact hne), ea⟩
      have HHS : Hid (HsP T H) := hHs
      have HEH : Hid (H = E.map hk) := hH
      have HHL : Hid (H.length = m) := hHl.trans hm.symm
      have HEL : Hid (E.length = m) := hm.symm
      rw [← hm] at hE hEm hEl ⊢
      have HEM : Hid (m = Maps.size D) := hEm
      have HE : Hid (OwnR w7 w6.heap.size 67 2 (.slice eo m ec) m (E.flatMap (encE V))) := hE
      have hb67 : Below w.heap.size w w7 := hbw6.trans (hb7.mono (by have := HW6.out.wp.lt; omega))
      obtain ⟨hd, hhd⟩ : ∃ hd, hd = headB k W sc R ++ wrB (Maps.size D) 2 := ⟨_, rfl⟩
      have hdl : hd.length ≤ 500000002 := by rw [hhd, List.length_append, wrB_len]; omega
      have HW7 : Hid (Wrote w.heap.size w.heap.size hd w7 w7) := Wrote.refl (by rw [hhd]; exact HW6.out.wp.kept hb7)
      have HHD2 : Hid (hd = headB k W sc R ++ wrB (Maps.size D) 2) := hhd
      have HB67 : Hid (Below w.heap.size w w7) := hb67
      have HVR : Hid (∀ x, okI x → ∃ a c, V x = .slice a (T x).length c ∧ RdH w7 a (T x)) := by
        intro x hx
        obtain ⟨a, c, hf⟩ := (HV.out x hx).form
        have h' := (HV.out x hx).other (w' := w7) (fun g hg hgl => hb67.block g hgl)
        rw [hf] at h'
        exact ⟨a, c, hf, RdH.of h'⟩
      clear hE hsrt hmem hEm hHs hH hHl hm c7 HW6 hbw6 hb7 hb67 hhd hhl
      go_wp2_with fail
      go_loopw [43, 6] (fun i lv wr => ∃ j : Nat, j ≤ m ∧ i = .int .i64 j ∧ lv = .int .i64 ((H.take j).getLastD 0) ∧ Wrote w.heap.size w.heap.size (hd ++ entB T 0 (H.take j)) w7 wr) (fun i _ _ => m - (RowKit.intOf i).toNat)
      case atStart => exact ⟨0, Nat.zero_le _, rfl, rfl, by simpa [entB] using HW7.out⟩
      case round =>
        obtain ⟨q, hq, rfl, rfl, hW⟩ := hrel
        have HWq : Hid _ := hW
        clear hW
        by_cases hlt : q < m
        · have hqE : q < E.length := by have := HEL.out; omega
          have hqH : q < H.length := by have := HHL.out; omega
          obtain ⟨g, o, cur, hge, hg7, hcE⟩ : ∃ g o cur, eo = some ⟨g, o, none⟩ ∧ w7.heap[g]? = some (.cells cur 67 (0, 0)) ∧ ∀ j u, (E.flatMap (encE V))[j]? = some u → cur[o + j]? = some u := by
            rcases HE.out.2 with ⟨_, h'⟩ | ⟨g, o, cap, cur, h, _, hg, _, _, _, hc⟩
            · omega
            · simp only [Value.slice.injEq] at h
              exact ⟨g, o, cur, h.1, hg, hc⟩
          subst hge
          have hgr : wr.heap[g]? = some (.cells cur 67 (0, 0)) := (HWq.out.kp g (fun cs h' => by rw [hg7] at h'; simp at h') (fun cs h' => by rw [hg7] at h'; simp at h') (lt_of_block hg7)).trans hg7
          obtain ⟨d0, d1⟩ := entry_cells V E g o cur wr hgr hcE q hqE
          have eH : H[q] = hk E[q] := by simp [HEH.out]
          rw [← eH] at d0 d1
          have hlast := last_le T H HHS.out HTH.out q hqH
          have HTK := (show Hid _ from entB_take T H q hqH)
          have HLS := (show Hid _ from take_last H q hqH)
          obtain ⟨x, hx⟩ : ∃ x, x = H[q] := ⟨_, rfl⟩
          obtain ⟨l, hl⟩ : ∃ l, l = (H.take q).getLastD 0 := ⟨_, rfl⟩
          rw [← hx] at d0 d1 hlast HTK HLS
          rw [← hl] at hlast HTK ⊢
          have hox : okI x := okI_of (by omega) hlast.2.2
          obtain ⟨va, vc, hvx, hrd⟩ := HVR.out x hox
          obtain ⟨t, ht⟩ : ∃ t, t = (T x).length := ⟨_, rfl⟩
          have hTx := HTL.out x
          rw [← ht] at hvx hTx
          rw [hvx] at d1
          obtain ⟨M, hM⟩ : ∃ M, M = hd ++ entB T 0 (H.take q) := ⟨_, rfl⟩
          have hMl : M.length ≤ 500000002 + 80000000 := by
            have h1 := entB_len T (fun h => Nat.le_trans (HTL.out h) hsum) (H.take q) 0
            rw [List.length_take] at h1
            have h2 := Nat.mul_le_mul_right 20000 (show min q H.length ≤ 4000 by omega)
            rw [hM, List.length_append]
            omega
          have HM : Hid (M = hd ++ entB T 0 (H.take q)) := hM
          have HWM : Hid (Wrote w.heap.size w.heap.size M w7 wr) := by rw [hM]; exact HWq.out
          obtain ⟨wB, hwB⟩ : ∃ W1 : World, W1 = wr.alloc (Obj.cells #[.int .i64 x, .slice va t vc] 67) := ⟨_, rfl⟩
          have hbB : Below wr.heap.size wr wB := by rw [hwB]; exact (Below.refl _ _).alloc (Nat.le_refl _) _
          have hnB : wB.heap[wr.heap.size]? = some (.cells #[.int .i64 x, .slice va t vc] 67 (0, 0)) := by rw [hwB]; exact heap_alloc_new wr _
          have hWB := HWM.out.more hbB
          have hkB : ∀ {w' : World}, WrK wB w' → w'.heap[wr.heap.size]? = some (.cells #[.int .i64 x, .slice va t vc] 67 (0, 0)) := fun h' => (h' _ (fun cs hc => by rw [hnB] at hc; simp at hc) (fun cs hc => by rw [hnB] at hc; simp at hc) (lt_of_block hnB)).trans hnB
          obtain ⟨df, hdf⟩ : ∃ df : Nat, x - l = df := ⟨(x - l).toNat, by omega⟩
          have hwr : IntKind.i64.wrap (x - l) = df := by rw [IntKind.wrap_i64]; omega
          have c8 := wnumber_any df 3 M w.heap.size w.heap.size wB hWB.wp (by omega) (by omega) (by omega)
          have q0 : wB.cell? ⟨wr.heap.size, 0, none⟩ = some (.int .i64 x) := cell_at hnB rfl
          have HKB := (show Hid _ from @hkB)
          have HWB : Hid _ := hWB
          have HRD : Hid (RdH w7 va (T x)) := hrd
          have HT' : Hid ((T x).length = t) := ht.symm
          have HDF : Hid ((x - l).toNat = df) := by show _ = _; omega
          clear hkB hbB hnB hWB hx hl ht hM hvx hgr hg7 hcE hrd eH
          go_wp2_with fail
          rw [← hwB]
          clear hwB d0 d1 hwr
          refine c8.mono ?_
          rintro e w8 ⟨rfl, hW8⟩
          have q1 : w8.cell? ⟨wr.heap.size, 1, none⟩ = some (.slice va t vc) := cell_at (HKB.out hW8.kp) rfl
          have hW8' := HWB.out.trans hW8
          have c9 := whits_any (T x) t HT'.out va vc (M ++ wrB df 3) w.heap.size w.heap.size w8 hW8.wp (HTO.out x) (HRD.out.kept hW8'.kp) (by omega) (by rw [List.length_append, wrB_len]; omega)
          have HW8 : Hid (Wrote w.heap.size w.heap.size (M ++ wrB df 3) wB w8) := hW8
          clear hW8 hW8' c8 q0
          go_wp2_with fail
          refine c9.mono ?_
          rintro e w9 ⟨rfl, hW9⟩
          have hW89 := HW8.out.trans hW9
          have q2 : w9.cell? ⟨wr.heap.size, 0, none⟩ = some (.int .i64 x) := cell_at (HKB.out hW89.kp) rfl
          have HW9 : Hid _ := HWB.out.trans hW89
          clear hW9 hW89 c9 q1 HW8 HWB
          go_wp2_with fail
          go_roundw
          case rel =>
            refine ⟨q + 1, by omega, by go_num, by rw [HLS.out], ?_⟩
            rw [HTK.out, HDF.out, ← List.append_assoc, ← List.append_assoc, ← HM.out]
            exact HW9.out
          case measure => simp [RowKit.intOf]; omega
        · have hqm : q = m := by omega
          obtain ⟨M, hM⟩ : ∃ M, M = hd ++ entB T 0 H := ⟨_, rfl⟩
          have hWM : Wrote w.heap.size w.heap.size M w7 wr := by
            have := HWq.out
            rw [hqm, ← HHL.out, List.take_length, ← hM] at this
            exact this
          have HSV : Hid (M = saveB k W sc R H) := by
            show _ = _
            rw [hM, HHD2.out, ← HEM.out, ← HHL.out, HTE.out]
            rfl
          have HHS2 : Hid (HsP (tabN k W R R.length) H) := by
            have := HHS.out
            rw [HTE.out] at this
            exact this
          obtain ⟨v, hvB, hvo, _⟩ := hWM.wp
          have q0 : wr.cell? ⟨w.heap.size, 0, none⟩ = some v := cell_at hvB rfl
          obtain ⟨va, vc, rfl⟩ := row_form hvo
          have hcv := bytes_text rfl (w := wr) (OwnR.of_ownsRow hvo (Nat.le_refl _))
          have HBW : Hid (Below w.heap.size w wr) := HB67.out.trans hWM.bl
          clear hvB hvo hWM hM
          go_wp2_with fail
          go_ret
          exact ⟨H, HHS2.out, by rw [HSV.out]; rfl, HBW.out⟩
end Go.Proofs.YtilcmkiihefkkabGreatDoor.Mn
end
section
set_option linter.unusedVariables false
set_option linter.unusedSimpArgs false
set_option maxRecDepth 100000
namespace Go.Proofs.YtilcmkiihefkkabGreatDoor.Mn
open Go.RowKit Go.Maps
attribute [local go_sem] run_store_flt
theorem GrP.low {κ α : Type} {P : Program} {kl : κ → Lit} {ok : κ → Prop} {enc : List α → List Value} {K E sz : Nat} {w : World} {base base' B n : Nat} {V : κ → Value} {L : κ → List α} (h : GrP P kl ok enc K E sz w base B n V L) (hb : base' ≤ base) : GrP P kl ok enc K E sz w base' B n V L :=
  ⟨h.map, fun x hx => (h.own x hx).low hb, h.apart⟩
/-- what is so of every reference that is read -/
def RfQ (x : S2) : Prop := (parseR (rfT x)).1 = [x] ∧ x.n.size ≤ 255
theorem rfX_q {l : List UInt8} (h : RfOk l) : RfQ (rfX l) := by
  refine ⟨h, ?_⟩
  show (rfN l).toArray.size ≤ 255
  have h1 := rdB_lt (l.take 1)
  have h2 := Nat.pow_le_pow_right (show 0 < 256 by omega) (show (l.take 1).length ≤ 1 by rw [List.length_take]; omega)
  rw [List.size_toArray]
  unfold rfN
  rw [List.length_take]
  omega
theorem RdsP.all : ∀ (m : Nat) (l : List UInt8) (acc R : List S2), RdsP m l acc R → (∀ x ∈ acc, RfQ x) → (∀ x ∈ R, RfQ x) ∧ R.length ≤ acc.length + m
  | 0, _, acc, R, h, ha => by
    have e : R = acc := h
    subst e
    exact ⟨ha, Nat.le_refl _⟩
  | m + 1, l, acc, R, h, ha => by
    rcases h with ⟨h1, h2, h3⟩ | ⟨h1, h2⟩
    · have := RdsP.all m _ _ _ h3 (fun x hx => by
        rcases List.mem_append.1 hx with hx | hx
        · exact ha x hx
        · simp at hx; subst hx; exact rfX_q h1)
      refine ⟨this.1, ?_⟩
      have h4 := this.2
      rw [List.length_append, List.length_singleton] at h4
      omega
    · subst h2
      exact ⟨fun x hx => (by cases hx), Nat.zero_le _⟩
theorem RfQ.facts {x : S2} (h : RfQ x) : good x.b ∧ x.b.size ≤ 1000000000 := by
  have hp := (parseR_ok (rfT x)).2 x (by rw [h.1]; exact List.mem_singleton.2 rfl)
  exact ⟨hp.1, by have := hp.2.2; omega⟩
theorem refs_len (R : List S2) (hq : ∀ x ∈ R, x.n.size ≤ 255) : (R.flatMap refB).length ≤ 258 * R.length + sumN R R.length := by
  have key : ∀ j, j ≤ R.length → ((R.take j).flatMap refB).length ≤ 258 * j + sumN R j := by
    intro j
    induction j with
    | zero => intro _; simp
    | succ j ih =>
      intro hj
      have h1 := ih (by omega)
      have hjR : j < R.length := by omega
      have e : sumN R (j + 1) = sumN R j + (R.getD j S0).b.size := rfl
      have hg : R.getD j S0 = R[j] := getD_get _ _ _ hjR
      have hn := hq R[j] (List.getElem_mem _)
      have hrl : (refB R[j]).length = R[j].n.size + R[j].b.size + 3 := by
        unfold refB
        rw [List.length_append, List.length_append, List.length_append, wrB_len, wrB_len]
        show 1 + R[j].n.size + 2 + R[j].b.size = _
        omega
      rw [List.take_add_one, List.getElem?_eq_getElem hjR, List.flatMap_append, List.length_append, e, hg]
      simp only [Option.toList_some, List.flatMap_cons, List.flatMap_nil, List.append_nil, hrl]
      omega
  have := key R.length (Nat.le_refl _)
  rwa [List.take_length] at this
/-- what Load answers -/
def LdP (T : List UInt8) (w : World) (e : Ending) (w' : World) : Prop :=
  ∃ R, RdsP (rdB ((T.drop 14).take 2)) (T.drop 16) [] R ∧ Below w.heap.size w w' ∧
    ((∃ X H, e = .returned (.tuple #[.pointer (some ⟨X, 0, none⟩), .int .i64 0]) ∧ optB (roK (T.drop 4)) (roW (T.drop 4)) (roS (T.drop 4)) = true ∧ refsE R = 0 ∧ HsP (tabN (roK (T.drop 4)) (roW (T.drop 4)) R R.length) H ∧ saveB (roK (T.drop 4)) (roW (T.drop 4)) (roS (T.drop 4)) R H = T ∧ IxP w' w.heap.size X R (roK (T.drop 4)) (roW (T.drop 4)) (roS (T.drop 4))) ∨
     (e = .returned (.tuple #[.pointer none, .int .i64 8]) ∧ (optB (roK (T.drop 4)) (roW (T.drop 4)) (roS (T.drop 4)) = true → refsE R = 0 → ∀ H, HsP (tabN (roK (T.drop 4)) (roW (T.drop 4)) R R.length) H → saveB (roK (T.drop 4)) (roW (T.drop 4)) (roS (T.drop 4)) R H ≠ T)))
theorem optB_facts {k W sc : Nat} (h : optB k W sc = true) : (1 ≤ k ∧ k ≤ 12) ∧ (1 ≤ W ∧ W ≤ 20) := by
  unfold optB at h
  simp only [Bool.and_eq_true, decide_eq_true_eq] at h
  have := h.1.1
  exact ⟨⟨by omega, by omega⟩, ⟨by omega, by omega⟩⟩
set_option maxHeartbeats 8000000 in
theorem Load_any (s : ByteArray) (w : World) (hs : s.size ≤ 140737488355328) :
    Calls Tryz.prog 10 #[.string s] w fun e w' => LdP s.data.toList w e w' := by
  obtain ⟨T, hT⟩ : ∃ T, T = s.data.toList := ⟨_, rfl⟩
  have HT : Hid (T = s.data.toList) := hT
  obtain ⟨B, hB⟩ : ∃ B, B = w.heap.size := ⟨_, rfl⟩
  obtain ⟨wA, hwA⟩ : ∃ W1 : World, W1 = w.alloc (Obj.cells #[.string s] 70) := ⟨_, rfl⟩
  have hbA : Below w.heap.size w wA := by rw [hwA]; exact (Below.refl _ _).alloc (Nat.le_refl _) _
  have hPA : RrP wA B s := by rw [hwA, hB]; exact heap_alloc_new w _
  have c1 := rtext_any s 4 B wA hPA (by omega) hs
  have HBA : Hid (Below w.heap.size w wA) := hbA
  have HBE : Hid (B = w.heap.size) := hB
  have hbl : ∀ {w' : World}, RrF B wA w' → Below w.heap.size w w' := fun h => ⟨h.os.trans hbA.os, h.tape.trans hbA.tape, h.output.trans hbA.output, Nat.le_trans hbA.size h.size, fun g hg => (h.other g (Nat.lt_of_lt_of_le hg hbA.size) (by omega)).trans (hbA.block g hg)⟩
  have HBL := (show Hid _ from @hbl)
  rw [← hT]
  clear hbA hPA hT hbl
  go_enter Tryz.func10, Tryz.ntmps10
  go_wp2_with fail
  rw [← hwA]
  clear hwA
  rw [← hB]
  clear hB
  refine c1.mono ?_
  rintro e w1 ⟨rfl, hP1, hF1⟩
  obtain ⟨s4, hs4⟩ : ∃ s4, s4 = drS 4 s := ⟨_, rfl⟩
  rw [← hs4] at hP1
  have e4 : s4.data.toList = T.drop 4 := by rw [hs4, drS_list, HT.out]
  have hs4l : s4.size ≤ 140737488355328 := by rw [hs4]; exact Nat.le_trans (drS_size _ _) hs
  have c2 := roptions_any s4 B w1 hP1 hs4l
  rw [e4] at c2
  obtain ⟨k, hk⟩ : ∃ k, k = roK (T.drop 4) := ⟨_, rfl⟩
  obtain ⟨W, hW⟩ : ∃ W, W = roW (T.drop 4) := ⟨_, rfl⟩
  obtain ⟨sc, hsc⟩ : ∃ sc, sc = roS (T.drop 4) := ⟨_, rfl⟩
  have hscl : sc < 18446744073709551616 := by rw [hsc]; exact roS_lt _
  rw [← hk, ← hW, ← hsc, List.drop_drop] at c2
  have HK := (show Hid _ from And.intro hk (And.intro hW hsc))
  have HF1 : Hid (RrF B wA w1) := hF1
  have HTL : Hid (T.length ≤ 140737488355328) := by rw [HT.out]; exact hs
  clear hs4 e4 hP1 hF1 c1 hk hW hsc
  go_wp2_with fail
  refine c2.mono ?_
  rintro e w2 ⟨rfl, ⟨t, ht, htl⟩, hF2⟩
  obtain ⟨wC, hwC⟩ : ∃ W1 : World, W1 = w2.alloc (Obj.cells #[.int .i64 k, .int .i64 W, .float .f64 sc] 24) := ⟨_, rfl⟩
  have hbC : Below w2.heap.size w2 wC := by rw [hwC]; exact (Below.refl _ _).alloc (Nat.le_refl _) _
  have hnC : wC.heap[w2.heap.size]? = some (.cells #[.int .i64 k, .int .i64 W, .float .f64 sc] 24 (0, 0)) := by rw [hwC]; exact heap_alloc_new w2 _
  have hBl2 : B < w2.heap.size := lt_of_block ht
  have c3 := rreferences_any t B wC ((hbC.block B hBl2).trans ht) (by rw [size_of htl, List.length_drop]; have := HTL.out; omega)
  rw [htl] at c3
  have HFC : Hid (RrF B wA wC) := HF1.out.trans (hF2.trans (RrF.of hbC))
  have HNC : Hid (wC.heap[w2.heap.size]? = some (.cells #[.int .i64 k, .int .i64 W, .float .f64 sc] 24 (0, 0))) := hnC
  clear hbC hnC ht htl hF2 HF1 c2
  go_wp2_with fail
  rw [← hwC]
  clear hwC
  refine c3.mono ?_
  rintro e w3 ⟨R, rv, rfl, hR, hRl, hown, hF3⟩
  have hR2 : RdsP (rdB ((T.drop 14).take 2)) (T.drop 16) [] R := by rw [List.drop_drop] at hR; exact hR
  obtain ⟨hRq, _⟩ := RdsP.all _ _ _ _ hR2 (fun x hx => by cases hx)
  have hFA3 := HFC.out.trans hF3
  have hn3 : w3.heap[w2.heap.size]? = some (.cells #[.int .i64 k, .int .i64 W, .float .f64 sc] 24 (0, 0)) := (hF3.other _ (lt_of_block HNC.out) (by omega)).trans HNC.out
  have HOUT : Hid (∀ e w', Below w.heap.size w w' → ((∃ X H, e = Ending.returned (.tuple #[.pointer (some ⟨X, 0, none⟩), .int .i64 0]) ∧ optB k W sc = true ∧ refsE R = 0 ∧ HsP (tabN k W R R.length) H ∧ saveB k W sc R H = T ∧ IxP w' w.heap.size X R k W sc) ∨
     (e = Ending.returned (.tuple #[.pointer none, .int .i64 8]) ∧ (optB k W sc = true → refsE R = 0 → ∀ H, HsP (tabN k W R R.length) H → saveB k W sc R H ≠ T))) → LdP T w e w') := by
    intro e w' h1 h2
    obtain ⟨e1, e2, e3⟩ := HK.out
    rw [e1, e2, e3] at h2
    exact ⟨R, hR2, h1, h2⟩
  have HRQ := (show Hid _ from hRq)
  have HN3 : Hid (w3.heap[w2.heap.size]? = some (.cells #[.int .i64 k, .int .i64 W, .float .f64 sc] 24 (0, 0))) := hn3
  have HF3 : Hid (RrF B wA w3) := hFA3
  have HO3 : Hid (OwnR w3 wC.heap.size 62 2 rv R.length (qcells R)) := hown
  have hCl : w.heap.size ≤ wC.heap.size := by have := HBA.out.size; have := HFC.out.size; omega
  have q0 : w3.cell? ⟨w2.heap.size, 0, none⟩ = some (.int .i64 k) := cell_at hn3 rfl
  have q1 : w3.cell? ⟨w2.heap.size, 1, none⟩ = some (.int .i64 W) := cell_at hn3 rfl
  have q2 : w3.cell? ⟨w2.heap.size, 2, none⟩ = some (.float .f64 sc) := cell_at hn3 rfl
  have hRf := fun x hx => RfQ.facts (hRq x hx)
  have c4 := optsMay_any (k : Int) (W : Int) sc
  clear hR hR2 hRq hFA3 hn3 hF3 c3 HFC HNC
  cases ho : optB (k : Int) (W : Int) sc
  · rw [ho] at c4
    go_wp2_with (go_at_call 15; refine (c4 _).mono ?_; rintro e w4 ⟨rfl, hb4⟩)
    go_ret2
    refine HOUT.out _ _ (HBL.out (HF3.out.trans (RrF.of hb4))) (Or.inr ⟨rfl, fun h => by rw [ho] at h; cases h⟩)
  · rw [ho] at c4
    obtain ⟨⟨hk1, hk2⟩, ⟨hW1, hW2⟩⟩ := optB_facts ho
    obtain ⟨ra, rc, hrv⟩ := hown.form
    subst hrv
    have c5 : ∀ W4, Below w3.heap.size w3 W4 → _ := fun W4 h4 => refsErr_any R wC.heap.size (.slice ra R.length rc) W4 (by omega) (fun x hx => (hRf x hx).2) (HO3.out.other (fun g _ hg => h4.block g hg))
    have C5 := (show Hid _ from c5)
    clear c5 hown
    go_wp2_with (go_at_call 15; refine (c4 _).mono ?_; rintro e w4 ⟨rfl, hb4⟩)
    refine (C5.out w4 hb4).mono ?_
    rintro e w5 ⟨rfl, hb5⟩
    have hb35 : Below w3.heap.size w3 w5 := hb4.trans (hb5.mono hb4.size)
    have HB35 : Hid (Below w3.heap.size w3 w5) := hb35
    have hl2 : w2.heap.size < w3.heap.size := lt_of_block HN3.out
    have hn5 := (hb35.block _ hl2).trans HN3.out
    clear q0 q1 q2
    have q0 : w5.cell? ⟨w2.heap.size, 0, none⟩ = some (.int .i64 k) := cell_at hn5 rfl
    have q1 : w5.cell? ⟨w2.heap.size, 1, none⟩ = some (.int .i64 W) := cell_at hn5 rfl
    have q2 : w5.cell? ⟨w2.heap.size, 2, none⟩ = some (.float .f64 sc) := cell_at hn5 rfl
    clear hn5 hb4 hb5 hb35 c4
    by_cases hre : refsE R = 0
    · have hsum : sumN R R.length ≤ 4000 := by
        unfold refsE at hre
        split at hre
        · cases hre
        · omega
      have c6 := newIndex_any R wC.heap.size (.slice ra R.length rc) k W sc w5 hk1 hk2 hW1 hW2 (by omega) (fun x hx => (hRf x hx).1) hsum (HO3.out.other (fun g _ hg => HB35.out.block g hg))
      have HRE : Hid (refsE R = 0) := hre
      rw [hre]
      clear hre
      go_wp2_with fail
      refine c6.mono ?_
      rintro e w6 ⟨X, Hb, V, rfl, hX, hHt, hb6, hX6, hHb6⟩
      have hlow : w.heap.size ≤ w5.heap.size := Nat.le_trans (HBL.out HF3.out).size HB35.out.size
      have hI6 : IxP w6 w.heap.size X R k W sc := ⟨_, Hb, V, hX, ((HO3.out.other (w' := w5) (fun g _ hg => HB35.out.block g hg)).other (fun g _ hg => hb6.block g hg)).low hCl, hHt.low hlow, by omega, by omega⟩
      have HI6 : Hid (IxP w6 w.heap.size X R k W sc) := hI6
      have hFw6 := HF3.out.trans ((RrF.of HB35.out).trans (RrF.of hb6))
      have HB6 : Hid (Below w.heap.size w w6) := HBL.out hFw6
      have hhead : (headB k W sc R).length ≤ 500000000 := by
        have h1 := refs_len R (fun x hx => (HRQ.out x hx).2)
        have h2 : (optB8 k W sc).length = 10 := by unfold optB8; simp only [List.length_append, wrB_len]
        have h3 : (mark4 : List UInt8).length = 4 := rfl
        unfold headB
        rw [List.length_append, List.length_append, List.length_append, h2, h3, wrB_len]
        omega
      have c7 := Save_any R w.heap.size X k W sc w6 hk1 hk2 hW1 hW2 hscl (fun x hx => (hRf x hx).1) (by omega) hsum hhead hI6
      clear hX hHt hI6 c6 hhead
      go_wp2_with fail
      refine c7.mono ?_
      rintro e w7 ⟨H, hH, rfl, hb7⟩
      have HIX : Hid (IxP w7 w.heap.size X R k W sc) := HI6.out.kept (fun g hg => hb7.block g hg)
      have HB7 : Hid (Below w.heap.size w w7) := HB6.out.trans (hb7.mono HB6.out.size)
      have HHS : Hid (HsP (tabN k W R R.length) H) := hH
      obtain ⟨sv, hsv⟩ : ∃ sv : ByteArray, sv = ⟨(saveB k W sc R H).toArray⟩ := ⟨_, rfl⟩
      have HSV : Hid (sv.data.toList = saveB k W sc R H) := by show _ = _; rw [hsv]
      rw [← hsv]
      clear hsv hb7 hH c7
      by_cases heq : sv = s
      · have HTE : Hid (saveB k W sc R H = T) := by show _ = _; rw [← HSV.out, HT.out, heq]
        subst heq
        go_wp2_with fail
        go_ret2
        exact HOUT.out _ _ HB7.out (Or.inl ⟨X, H, rfl, ho, HRE.out, HHS.out, HTE.out, HIX.out⟩)
      · have HTE : Hid (∀ H', HsP (tabN k W R R.length) H' → saveB k W sc R H' ≠ T) := by
          intro H' hH' he
          rw [hH'.uniq HHS.out] at he
          refine heq ?_
          apply ByteArray.ext
          apply Array.toList_inj.1
          rw [HSV.out, he, HT.out]
        have hne : (sv.toList == s.toList) = false := by rw [beq_eq_false_iff_ne]; exact fun h => heq (ba_inj h)
        go_wp2_with fail
        go_ret2
        exact HOUT.out _ _ HB7.out (Or.inr ⟨rfl, fun _ _ => HTE.out⟩)
    · have HRE : Hid (refsE R ≠ 0) := hre
      have hreI : (refsE R == 0) = false := by rw [beq_eq_false_iff_ne]; exact hre
      obtain ⟨rz, hrz⟩ : ∃ rz, rz = refsE R := ⟨_, rfl⟩
      rw [← hrz] at hreI ⊢
      have HB5 : Hid (Below w.heap.size w w5) := HBL.out (HF3.out.trans (RrF.of HB35.out))
      clear hrz hre
      go_wp2_with fail
      go_ret2
      exact HOUT.out _ _ HB5.out (Or.inr ⟨rfl, fun _ h => absurd h HRE.out⟩)
end Go.Proofs.YtilcmkiihefkkabGreatDoor.Mn
end
section
set_option linter.unusedVariables false
set_option linter.unusedSimpArgs false
set_option maxRecDepth 100000
namespace Go.Proofs.YtilcmkiihefkkabGreatDoor.Mn
open Go.RowKit
theorem rd_wr (n k : Nat) (Y : List UInt8) (h : n < 256 ^ k) : rdB ((wrB n k ++ Y).take k) = n ∧ (wrB n k ++ Y).drop k = Y := by
  have hl := wrB_len k n
  constructor
  · rw [List.take_append_of_le_length (by omega), List.take_of_length_le (by omega), rdB_wrB, Nat.mod_eq_of_lt h]
  · rw [List.drop_append_of_le_length (by omega), List.drop_eq_nil_of_le (by omega), List.nil_append]
theorem rd_ref (x : S2) (Y : List UInt8) (hn : x.n.size ≤ 255) (hb : x.b.size < 65536) : rfX (refB x ++ Y) = x ∧ rfR (refB x ++ Y) = Y := by
  obtain ⟨n, b⟩ := x
  simp only at hn hb
  have e : refB ⟨n, b⟩ ++ Y = wrB n.size 1 ++ (n.data.toList ++ (wrB b.size 2 ++ (b.data.toList ++ Y))) := by
    unfold refB
    simp only [List.append_assoc]
  have hnl : n.data.toList.length = n.size := rfl
  have hbl : b.data.toList.length = b.size := rfl
  have h1 := rd_wr n.size 1 (n.data.toList ++ (wrB b.size 2 ++ (b.data.toList ++ Y))) (by omega)
  have h2 := rd_wr b.size 2 (b.data.toList ++ Y) (by omega)
  have eL : rfL (refB ⟨n, b⟩ ++ Y) = wrB b.size 2 ++ (b.data.toList ++ Y) := by
    unfold rfL
    rw [e, h1.1, h1.2, List.drop_append_of_le_length (by omega), List.drop_eq_nil_of_le (by omega), List.nil_append]
  have eN : rfN (refB ⟨n, b⟩ ++ Y) = n.data.toList := by
    unfold rfN
    rw [e, h1.1, h1.2, List.take_append_of_le_length (by omega), List.take_of_length_le (by omega)]
  have eB : rfB (refB ⟨n, b⟩ ++ Y) = b.data.toList := by
    unfold rfB
    rw [eL, h2.1, h2.2, List.take_append_of_le_length (by omega), List.take_of_length_le (by omega)]
  constructor
  · unfold rfX
    rw [eN, eB]
  · unfold rfR
    rw [eL, h2.1, h2.2, List.drop_append_of_le_length (by omega), List.drop_eq_nil_of_le (by omega), List.nil_append]
theorem rds_refs : ∀ (R acc : List S2) (Y : List UInt8), (∀ x ∈ R, RfQ x ∧ x.b.size < 65536) → (acc ++ R).Pairwise (fun x y => x.n ≠ y.n) → RdsP R.length (R.flatMap refB ++ Y) acc (acc ++ R)
  | [], acc, Y, _, _ => by simp [RdsP]
  | x :: t, acc, Y, hq, hp => by
    have hx := hq x (List.mem_cons_self)
    have e : (x :: t).flatMap refB ++ Y = refB x ++ (t.flatMap refB ++ Y) := by rw [List.flatMap_cons, List.append_assoc]
    have hr := rd_ref x (t.flatMap refB ++ Y) hx.1.2 hx.2
    rw [e]
    refine Or.inl ⟨?_, ?_, ?_⟩
    · show (parseR (rfT (rfX _))).1 = [rfX _]
      rw [hr.1]
      exact hx.1.1
    · rw [hr.1]
      rintro ⟨y, hy, hyn⟩
      rw [List.pairwise_append] at hp
      exact hp.2.2 y hy x (List.mem_cons_self) hyn
    · rw [hr.1, hr.2]
      have := rds_refs t (acc ++ [x]) Y (fun y hy => hq y (List.mem_cons_of_mem _ hy)) (by rw [List.append_assoc]; exact hp)
      rw [List.append_assoc] at this
      exact this
/-- what is written is read again -/
theorem head_read (k W sc : Nat) (R : List S2) (Y : List UInt8) (hk : k < 256) (hW : W < 256) (hsc : sc < 18446744073709551616) (hRl : R.length < 65536) (hq : ∀ x ∈ R, RfQ x ∧ x.b.size < 65536) (hp : R.Pairwise (fun x y => x.n ≠ y.n)) :
    roK ((headB k W sc R ++ Y).drop 4) = k ∧ roW ((headB k W sc R ++ Y).drop 4) = W ∧ roS ((headB k W sc R ++ Y).drop 4) = sc ∧ RdsP (rdB (((headB k W sc R ++ Y).drop 14).take 2)) ((headB k W sc R ++ Y).drop 16) [] R := by
  obtain ⟨Z, hZ⟩ : ∃ Z, Z = R.flatMap refB ++ Y := ⟨_, rfl⟩
  have e : headB k W sc R ++ Y = mark4 ++ (wrB k 1 ++ (wrB W 1 ++ (wrB sc 8 ++ (wrB R.length 2 ++ Z)))) := by
    unfold headB optB8
    rw [hZ]
    simp only [List.append_assoc]
  have d4 : (headB k W sc R ++ Y).drop 4 = wrB k 1 ++ (wrB W 1 ++ (wrB sc 8 ++ (wrB R.length 2 ++ Z))) := by rw [e]; rfl
  have h1 := rd_wr k 1 (wrB W 1 ++ (wrB sc 8 ++ (wrB R.length 2 ++ Z))) (by omega)
  have h2 := rd_wr W 1 (wrB sc 8 ++ (wrB R.length 2 ++ Z)) (by omega)
  have h3 := rd_wr sc 8 (wrB R.length 2 ++ Z) (by omega)
  have h4 := rd_wr R.length 2 Z (by omega)
  have d5 : ((headB k W sc R ++ Y).drop 4).drop 1 = wrB W 1 ++ (wrB sc 8 ++ (wrB R.length 2 ++ Z)) := by rw [d4]; exact h1.2
  have d6 : ((headB k W sc R ++ Y).drop 4).drop 2 = wrB sc 8 ++ (wrB R.length 2 ++ Z) := by
    rw [show (2 : Nat) = 1 + 1 from rfl, ← List.drop_drop, d5]; exact h2.2
  have d14 : (headB k W sc R ++ Y).drop 14 = wrB R.length 2 ++ Z := by
    rw [show (14 : Nat) = 4 + 2 + 8 from rfl, ← List.drop_drop, ← List.drop_drop, d6]; exact h3.2
  have d16 : (headB k W sc R ++ Y).drop 16 = Z := by
    rw [show (16 : Nat) = 14 + 2 from rfl, ← List.drop_drop, d14]; exact h4.2
  refine ⟨?_, ?_, ?_, ?_⟩
  · unfold roK; rw [d4]; exact h1.1
  · unfold roW; rw [d5]; exact h2.1
  · unfold roS; rw [d6]; exact h3.1
  · rw [d14, d16, h4.1, hZ]
    have := rds_refs R [] Y hq (by simpa using hp)
    simpa using this
/-- loading what was saved: with the tail that was written, the index comes again; with any other, it does not -/
theorem load_head {k W sc : Nat} {R : List S2} {H : List Int} {Y : List UInt8} {w w' : World} {e : Ending} (hk : k < 256) (hW : W < 256) (hsc : sc < 18446744073709551616) (hRl : R.length < 65536) (hq : ∀ x ∈ R, RfQ x ∧ x.b.size < 65536) (hp : R.Pairwise (fun x y => x.n ≠ y.n))
    (ho : optB k W sc = true) (hr : refsE R = 0) (hH : HsP (tabN k W R R.length) H) (h : LdP (headB k W sc R ++ Y) w e w') :
    Below w.heap.size w w' ∧ ((headB k W sc R ++ Y = saveB k W sc R H ∧ ∃ X, e = .returned (.tuple #[.pointer (some ⟨X, 0, none⟩), .int .i64 0]) ∧ IxP w' w.heap.size X R k W sc) ∨ (headB k W sc R ++ Y ≠ saveB k W sc R H ∧ e = .returned (.tuple #[.pointer none, .int .i64 8]))) := by
  obtain ⟨R', hR', hb, h⟩ := h
  obtain ⟨h1, h2, h3, h4⟩ := head_read k W sc R Y hk hW hsc hRl hq hp
  have e' : R' = R := RdsP.uniq _ _ _ _ _ hR' h4
  subst e'
  rw [h1, h2, h3] at h
  refine ⟨hb, ?_⟩
  rcases h with ⟨X, H', he, _, _, hH', hs, hI⟩ | ⟨he, hne⟩
  · rw [hH'.uniq hH] at hs
    exact Or.inl ⟨hs.symm, X, he, hI⟩
  · exact Or.inr ⟨fun h => hne ho hr H hH h.symm, he⟩
end Go.Proofs.YtilcmkiihefkkabGreatDoor.Mn
end
section
set_option linter.unusedVariables false
set_option linter.unusedSimpArgs false
set_option maxRecDepth 100000
namespace Go.Proofs.YtilcmkiihefkkabGreatDoor.Mn
open Go.RowKit Go.Shelf Go.Lib
/-- the facts that Save and Load ask of an index -/
structure KpF (k W sc : Nat) (R : List S2) : Prop where
  k1 : 1 ≤ k
  k2 : k ≤ 12
  w1 : 1 ≤ W
  w2 : W ≤ 20
  s64 : sc < 18446744073709551616
  rl : R.length < 65536
  rq : ∀ x ∈ R, RfQ x ∧ x.b.size < 65536
  pw : R.Pairwise (fun x y => x.n ≠ y.n)
  op : optB k W sc = true
  re : refsE R = 0
theorem refsE_sum {R : List S2} (h : refsE R = 0) : sumN R R.length ≤ 4000 := by
  unfold refsE at h
  split at h
  · cases h
  · omega
theorem head_len (k W sc : Nat) (R : List S2) (hq : ∀ x ∈ R, x.n.size ≤ 255) (hl : R.length ≤ 65536) (hs : sumN R R.length ≤ 4000) : (headB k W sc R).length ≤ 500000000 := by
  have h1 := refs_len R hq
  have h2 : (optB8 k W sc).length = 10 := by unfold optB8; simp only [List.length_append, wrB_len]
  have h3 : (mark4 : List UInt8).length = 4 := rfl
  unfold headB
  rw [List.length_append, List.length_append, List.length_append, h2, h3, wrB_len]
  omega
theorem save_at {k W sc : Nat} {R : List S2} {base X : Nat} {w : World} (h : KpF k W sc R) (H : List Int) (hH : HsP (tabN k W R R.length) H) (hI : IxP w base X R k W sc) :
    Calls Tryz.prog 9 #[.pointer (some ⟨X, 0, none⟩)] w fun e w' => e = .returned (.string ⟨(saveB k W sc R H).toArray⟩) ∧ Below w.heap.size w w' := by
  have hs := refsE_sum h.re
  refine (Save_any R base X k W sc w h.k1 h.k2 h.w1 h.w2 h.s64 (fun x hx => ((h.rq x hx).1.facts).1) (by have := h.rl; omega) hs (head_len k W sc R (fun x hx => (h.rq x hx).1.2) (by have := h.rl; omega) hs) hI).mono ?_
  rintro e w' ⟨H', hH', rfl, hb⟩
  rw [hH'.uniq hH]
  exact ⟨rfl, hb⟩
theorem saveB_split (k W sc : Nat) (R : List S2) (H : List Int) : saveB k W sc R H = headB k W sc R ++ (wrB H.length 2 ++ entB (tabN k W R R.length) 0 H) := by
  unfold saveB; rw [List.append_assoc]
theorem load_same {k W sc : Nat} {R : List S2} (h : KpF k W sc R) (H : List Int) (hH : HsP (tabN k W R R.length) H) (s : ByteArray) (hs : s.data.toList = saveB k W sc R H) (hz : s.size ≤ 140737488355328) (w : World) :
    Calls Tryz.prog 10 #[.string s] w fun e w' => ∃ X, e = .returned (.tuple #[.pointer (some ⟨X, 0, none⟩), .int .i64 0]) ∧ Below w.heap.size w w' ∧ IxP w' w.heap.size X R k W sc := by
  refine (Load_any s w hz).mono ?_
  intro e w' hL
  rw [hs, saveB_split] at hL
  obtain ⟨hb, h'⟩ := load_head (by have := h.k2; omega) (by have := h.w2; omega) h.s64 h.rl h.rq h.pw h.op h.re hH hL
  rcases h' with ⟨_, X, he, hI⟩ | ⟨hne, _⟩
  · exact ⟨X, he, hb, hI⟩
  · exact absurd (saveB_split k W sc R H).symm hne
theorem load_other {k W sc : Nat} {R : List S2} (h : KpF k W sc R) (H : List Int) (hH : HsP (tabN k W R R.length) H) (s : ByteArray) (Y : List UInt8) (hs : s.data.toList = headB k W sc R ++ Y) (hne : headB k W sc R ++ Y ≠ saveB k W sc R H) (hz : s.size ≤ 140737488355328) (w : World) :
    Calls Tryz.prog 10 #[.string s] w fun e w' => e = .returned (.tuple #[.pointer none, .int .i64 8]) ∧ Below w.heap.size w w' := by
  refine (Load_any s w hz).mono ?_
  intro e w' hL
  rw [hs] at hL
  obtain ⟨hb, h'⟩ := load_head (by have := h.k2; omega) (by have := h.w2; omega) h.s64 h.rl h.rq h.pw h.op h.re hH hL
  rcases h' with ⟨he, _⟩ | ⟨_, he⟩
  · exact absurd he hne
  · exact ⟨he, hb⟩
/-- what was loaded is saved as it was -/
theorem load_any2 (s : ByteArray) (w : World) (hz : s.size ≤ 140737488355328) :
    Calls Tryz.prog 10 #[.string s] w fun e w' => Below w.heap.size w w' ∧ (e = .returned (.tuple #[.pointer none, .int .i64 8]) ∨ ∃ X, e = .returned (.tuple #[.pointer (some ⟨X, 0, none⟩), .int .i64 0]) ∧
      Calls Tryz.prog 9 #[.pointer (some ⟨X, 0, none⟩)] w' fun e2 w2 => e2 = .returned (.string s) ∧ Below w'.heap.size w' w2) := by
  refine (Load_any s w hz).mono ?_
  rintro e w' ⟨R, hR, hb, h⟩
  refine ⟨hb, ?_⟩
  rcases h with ⟨X, H, he, ho, hre, hH, hs, hI⟩ | ⟨he, _⟩
  · right
    refine ⟨X, he, ?_⟩
    obtain ⟨hq, hl⟩ := RdsP.all _ _ _ _ hR (fun x hx => by cases hx)
    have hl2 : R.length ≤ 65536 := by
      have := rd_small (s.data.toList.drop 14) 2 (by omega)
      simp only [List.length_nil, Nat.zero_add] at hl
      omega
    obtain ⟨⟨hk1, hk2⟩, ⟨hW1, hW2⟩⟩ := optB_facts ho
    have hsum := refsE_sum hre
    refine (Save_any R w.heap.size X _ _ _ w' hk1 hk2 hW1 hW2 (roS_lt _) (fun x hx => (hq x hx).facts.1) (by omega) hsum (head_len _ _ _ R (fun x hx => (hq x hx).2) hl2 hsum) hI).mono ?_
    rintro e2 w2 ⟨H', hH', rfl, hb2⟩
    rw [hH'.uniq hH, hs]
    exact ⟨rfl, hb2⟩
  · exact Or.inl he
/-- one letter more, one letter less -/
theorem save_long (k W sc : Nat) (R : List S2) (H : List Int) : 18 ≤ (saveB k W sc R H).length := by
  have h2 : (optB8 k W sc).length = 10 := by unfold optB8; simp only [List.length_append, wrB_len]
  have h3 : (mark4 : List UInt8).length = 4 := rfl
  unfold saveB headB
  simp only [List.length_append, h2, h3, wrB_len]
  omega
theorem rq_one (n : UInt8) (b : ByteArray) (hg : good b) (hb : b.size ≤ 200) (h1 : parseR ⟨(ofL n b).toArray⟩ = ([⟨⟨#[n]⟩, b⟩], 0, 0)) : RfQ ⟨⟨#[n]⟩, b⟩ ∧ b.size < 65536 := by
  refine ⟨⟨?_, show (1 : Nat) ≤ 255 by omega⟩, by omega⟩
  have e : rfT ⟨⟨#[n]⟩, b⟩ = ⟨(ofL n b).toArray⟩ := by
    unfold rfT
    apply ByteArray.ext
    simp [ofL]
  rw [e, h1]
theorem hs_len {k W sc : Nat} {R : List S2} (h : KpF k W sc R) (H : List Int) (hH : HsP (tabN k W R R.length) H) : H.length ≤ 16777216 := by
  have hb := tab_hash h.k1 h.k2 h.w1 R (fun x hx => ((h.rq x hx).1.facts).1)
  have hn : H.Nodup := hH.1.imp (fun hab he => by omega)
  have := len_sub H ((List.range 16777216).map (fun n : Nat => (n : Int))) hn (fun x hx => by
    have h1 := hb x ((hH.2 x).1 hx)
    rw [List.mem_map]
    exact ⟨x.toNat, by rw [List.mem_range]; omega, by omega⟩)
  rw [List.length_map, List.length_range] at this
  exact this
theorem save_size {k W sc : Nat} {R : List S2} (h : KpF k W sc R) (H : List Int) (hH : HsP (tabN k W R R.length) H) : (saveB k W sc R H).length ≤ 400000000000 := by
  have hs := refsE_sum h.re
  have h1 := head_len k W sc R (fun x hx => (h.rq x hx).1.2) (by have := h.rl; omega) hs
  have h2 := hs_len h H hH
  have hT := tabN_len h.k1 h.k2 h.w1 R (fun x hx => ((h.rq x hx).1.facts).1) R.length (Nat.le_refl _)
  have h3 := entB_len (tabN k W R R.length) (fun a => Nat.le_trans (hT a) hs) H 0
  have h4 := Nat.mul_le_mul_right 20000 h2
  unfold saveB
  rw [List.length_append, List.length_append, wrB_len]
  omega
theorem ba_size (s : ByteArray) : s.size = s.data.toList.length := rfl
/-- the bytes, and one letter more, and one less -/
theorem load_more {k W sc : Nat} {R : List S2} (h : KpF k W sc R) (H : List Int) (hH : HsP (tabN k W R R.length) H) (s : ByteArray) (hs : s.data.toList = saveB k W sc R H) (w : World) :
    Calls Tryz.prog 10 #[.string (s ++ ⟨#[120]⟩)] w fun e w' => e = .returned (.tuple #[.pointer none, .int .i64 8]) ∧ Below w.heap.size w w' := by
  have hl := save_size h H hH
  have e : (s ++ ⟨#[120]⟩).data.toList = headB k W sc R ++ (wrB H.length 2 ++ entB (tabN k W R R.length) 0 H ++ [120]) := by
    rw [ByteArray.data_append, Array.toList_append, hs, saveB_split, List.append_assoc]
  refine load_other h H hH _ _ e (fun he => ?_) ?_ w
  · have := congrArg List.length he
    rw [saveB_split] at this
    simp only [List.length_append, List.length_singleton] at this
    omega
  · rw [ba_size, e]
    rw [saveB_split] at hl
    simp only [List.length_append, List.length_singleton] at hl ⊢
    omega
theorem load_less {k W sc : Nat} {R : List S2} (h : KpF k W sc R) (H : List Int) (hH : HsP (tabN k W R R.length) H) (s : ByteArray) (hs : s.data.toList = saveB k W sc R H) (w : World) :
    Calls Tryz.prog 10 #[.string (s.extract 0 (s.size - 1))] w fun e w' => e = .returned (.tuple #[.pointer none, .int .i64 8]) ∧ Below w.heap.size w w' := by
  have hl := save_size h H hH
  obtain ⟨Y, hY⟩ : ∃ Y, Y = wrB H.length 2 ++ entB (tabN k W R R.length) 0 H := ⟨_, rfl⟩
  have hYl : 2 ≤ Y.length := by rw [hY, List.length_append, wrB_len]; omega
  have hsz : s.size = (headB k W sc R).length + Y.length := by rw [ba_size, hs, saveB_split, ← hY, List.length_append]
  have e : (s.extract 0 (s.size - 1)).data.toList = headB k W sc R ++ Y.take (Y.length - 1) := by
    rw [ByteArray.data_extract, Array.toList_extract, hs, saveB_split, ← hY]
    show List.take (s.size - 1 - 0) (List.drop 0 (headB k W sc R ++ Y)) = _
    rw [List.drop_zero, Nat.sub_zero, List.take_append, List.take_of_length_le (by omega), show s.size - 1 - (headB k W sc R).length = Y.length - 1 by omega]
  refine load_other h H hH _ _ e (fun he => ?_) ?_ w
  · have := congrArg List.length he
    rw [saveB_split, ← hY] at this
    simp only [List.length_append, List.length_take] at this
    omega
  · rw [ba_size, e]
    rw [saveB_split, ← hY] at hl
    simp only [List.length_append, List.length_take] at hl ⊢
    omega
/-- Map, twice -/
def MpK (R : List S2) (k W sc : Nat) (rc : ByteArray) (L : List FD) (w : World) (e : Ending) (w' : World) : Prop :=
  ∃ ao cp, e = .returned (.tuple #[.slice ao L.length cp, .int .i64 0, .int .i64 0]) ∧ Below w.heap.size w w' ∧ RdR w' 46 ao L.length (foundsC L)
theorem map_kept (R : List S2) (base X k W sc : Nat) (rc : ByteArray) (w : World) (hg : good rc) (hs : rc.size ≤ 200) (hF : KpF k W sc R) (hR : RefsOK R) (hI : IxP w base X R k W sc)
    (htab : Lib.TabBelow Tryz.prog w.heap.size w "internal/strconv.uint64pow10" .u64 Lib.pow10Tab) (hLt : LtP w) :
    Calls Tryz.prog 11 #[.pointer (some ⟨X, 0, none⟩), .string ⟨(ofL 114 rc).toArray⟩] w fun e w' => ∃ rs, rs.length = 1 ∧ FindsR R k W sc [⟨⟨#[114]⟩, rc⟩] rs ∧ MpK R k W sc rc (rs.filterMap id) w e w' := by
  have hp := parse_of 114 rc hg (by omega) (by decide) (by decide)
  have hsz : (⟨(ofL 114 rc).toArray⟩ : ByteArray).size ≤ 140737488351232 := by
    have e1 : (⟨(ofL 114 rc).toArray⟩ : ByteArray).size = (ofL 114 rc).length := by show (ofL 114 rc).toArray.size = _; simp
    have e2 := ofL_len 114 rc
    omega
  refine (Map_any R base X k W sc _ w hsz hF.k1 hF.k2 hF.w1 hF.w2 hR hI htab hLt).mono ?_
  rintro e w' ⟨v, rfl, hbM, _, h⟩
  rw [hp] at h ⊢
  obtain ⟨rs, hl, hFR, hO⟩ := h rfl
  obtain ⟨ao, cp, rfl⟩ := hO.form
  exact ⟨rs, hl, hFR, ao, cp, rfl, hbM, RdR.of hO⟩
theorem map_kept2 (R : List S2) (base X k W sc : Nat) (rc T : ByteArray) (hT : T = ⟨(ofL 114 rc).toArray⟩) (w : World) (hg : good rc) (hs : rc.size ≤ 200) (hF : KpF k W sc R) (hR : RefsOK R) (hI : IxP w base X R k W sc)
    (htab : Lib.TabBelow Tryz.prog w.heap.size w "internal/strconv.uint64pow10" .u64 Lib.pow10Tab) (hLt : LtP w) :
    Calls Tryz.prog 11 #[.pointer (some ⟨X, 0, none⟩), .string T] w fun e w' => ∃ rs, rs.length = 1 ∧ FindsR R k W sc [⟨⟨#[114]⟩, rc⟩] rs ∧ MpK R k W sc rc (rs.filterMap id) w e w' := by
  subst hT
  exact map_kept R base X k W sc rc w hg hs hF hR hI htab hLt
end Go.Proofs.YtilcmkiihefkkabGreatDoor.Mn
end
