import Derived.Test.YtilcmkiihefkkaaAlC
import Derived.Test.YtilcmkiihefkkaaAlE
set_option linter.unusedVariables false
set_option linter.unusedSimpArgs false
namespace Go.Proofs.Ytilcmkiihefkkaa
open Go.RowKit Go.Shelf Go.Lib

theorem Try.info116 : (Try.prog.info? 116).map (fun i => (i.zero, i.size, i.bytes)) = some (some (.agg #[.int .i64 0, .int .i64 0]), 2, 16) := by kernel_rfl

theorem enter47 (args : Array Value) (w : World) : (callFunc 47 args).run Try.prog w = .ok (.enter 47 args) w := enters_of Try.func47 (by kernel_rfl) rfl args w

/-- all old blocks but one are as they were -/
structure ButB (w w' : World) (g : Nat) : Prop where
  os : w'.os = w.os
  tape : w'.tape = w.tape
  output : w'.output = w.output
  size : w.heap.size ≤ w'.heap.size
  other : ∀ j, j < w.heap.size → j ≠ g → w'.heap[j]? = w.heap[j]?

/-- the table while the anchors are added -/
def TbI (w wx : World) (Tb : Nat) (k : Int) (S : List (Int × Int)) (i : Nat) : Prop := ∃ v, wx.heap[Tb]? = some (.cells #[.int .i64 k, v] 113 (0, 0)) ∧ OwnR wx w.heap.size 118 4 v i (lcells (tb k S i)) ∧ ButB w wx Tb

set_option maxHeartbeats 4000000 in
set_option maxRecDepth 100000 in
theorem eachAnchor_any (L : List (Int × Int)) (n : Nat) (hn : L.length = n) (Tb g o cap : Nat) (k : Int) (w : World) (hk1 : 1 ≤ k) (hk2 : k ≤ 12) (h0 : 0 < n) (h4 : n ≤ 400) (hg : g < w.heap.size) (hgT : g ≠ Tb)
    (hA : ∀ j (hj : j < L.length), w.cell? ⟨g, o + j * 2, none⟩ = some (.int .i64 L[j].1) ∧ w.cell? ⟨g, o + j * 2 + 1, none⟩ = some (.int .i64 L[j].2))
    (hok : ∀ x ∈ L, okA x) (hB : w.heap[Tb]? = some (.cells #[.int .i64 k, .slice none 0 0] 113 (0, 0))) :
    Calls Try.prog 46 #[.slice (some ⟨g, o, none⟩) n cap, .func (.func 47) #[.pointer (some ⟨Tb, 0, none⟩)] #[]] w fun e w' => e = .returned (.tuple #[]) ∧ TbI w w' Tb k (canon L) (canon L).length := by
  obtain ⟨i6, hi6, hz0, hz1, hz2⟩ := info_parts Try.info116
  have hltT := lt_of_block hB
  have HN : Hid (L.length = n) := hn
  have HA : Hid (∀ j (hj : j < L.length), w.cell? ⟨g, o + j * 2, none⟩ = some (.int .i64 L[j].1) ∧ w.cell? ⟨g, o + j * 2 + 1, none⟩ = some (.int .i64 L[j].2)) := hA
  have HOK : Hid (∀ x ∈ L, okA x) := hok
  have HB : Hid (w.heap[Tb]? = some (.cells #[.int .i64 k, .slice none 0 0] 113 (0, 0))) := hB
  obtain ⟨Z, hZ, hmk⟩ : ∃ Z : Array Value, Z.size = n * 2 ∧ ∀ W : World, (Instr.makeSlice 142 (.int .i64 0) (.int .i64 n)).run Try.prog W = .ok (.slice (some ⟨W.heap.size, 0, none⟩) 0 n) (W.alloc (.cells Z 116)) := by
    refine ⟨madeCells (Value.agg #[.int .i64 0, .int .i64 0]).cells (n * 2), by rw [size_madeCells], fun W => ?_⟩
    have := run_make (P := Try.prog) W 142 116 i6 _ Try.underlying142 hi6 hz0 .i64 .i64 0 n (by omega) (by omega) (by rw [hz2]; omega) (by omega)
    rw [hz1] at this
    simpa using this
  clear hn hA hok hB
  go_enter Try.func46, Try.ntmps46
  go_wp2_with fail
  have HST : Hid (OwnR (w.alloc (.cells Z 116)) w.heap.size 116 2 (.slice (some ⟨w.heap.size, 0, none⟩) 0 n) 0 (acells (L.take 0))) := ⟨rfl, Or.inr ⟨w.heap.size, 0, n, Z, rfl, Nat.le_refl _, heap_alloc_new w _, Nat.zero_le _, by unfold maxLen; omega, by omega, fun j u hj => by simp [acells] at hj⟩⟩
  have HBST : Hid (Below w.heap.size w (w.alloc (.cells Z 116))) := (Below.refl _ w).alloc (Nat.le_refl _) _
  clear hmk
  go_loopw [4, 14] (fun sv iv wx => ∃ i : Nat, i ≤ n ∧ iv = .int .i64 i ∧ OwnR wx w.heap.size 116 2 sv i (acells (L.take i)) ∧ Below w.heap.size w wx) (fun _ iv _ => n - (intOf iv).toNat)
  case atStart => exact ⟨0, Nat.zero_le _, rfl, HST.out, HBST.out⟩
  case round =>
    clear HST HBST
    obtain ⟨i, hi, rfl, hown, hbel⟩ := hrel
    obtain ⟨ao, c, hv⟩ := hown.shape
    subst hv
    by_cases hlt : i < n
    · have hltI : (i : Int) < n := by omega
      have hLi : i < L.length := by rw [HN.out]; exact hlt
      obtain ⟨c1, c2⟩ := HA.out i hLi
      rw [← hbel.cell hg] at c1 c2
      obtain ⟨x, hx⟩ : ∃ x, x = L[i] := ⟨_, rfl⟩
      rw [← hx] at c1 c2
      have HX : Hid (x = L[i]) := hx
      obtain ⟨xr, xp⟩ := x
      simp only at c1 c2
      have hsz := hbel.size
      have HBEL : Hid (Below w.heap.size w wr) := hbel
      have HOWN : Hid (OwnR wr w.heap.size 116 2 (.slice ao i c) i (acells (L.take i))) := hown
      clear hx hown hbel
      go_wp2_with (at_builtin; go_must (refine wpList_own _ rfl (.tmp 18) (.tmp 20) 142 rfl 116 i6 _ 2 16 Try.underlying142 hi6 hz0 hz1 hz2 rfl (by decide) w.heap.size (.slice ao i c) i (acells (L.take i)) rfl (by exact HOWN.out.other (fun g _ hlt => (Below.heap_alloc _ _ _ (by simp; omega)).trans (Below.heap_alloc _ _ _ hlt))) ⟨wr.heap.size + 1, 0, none⟩ 1 [.int .i64 xr, .int .i64 xp] rfl rfl (by exact abox_cells _ _ _ _ _ (by simp)) (an_oneCell _ _) (by unfold maxLen; omega) (by omega) (by simp; omega) ?_; intro g' o' cap' w3 hown3 hf3))
      go_roundw
      case rel =>
        refine ⟨i + 1, by omega, by go_num, ?_, ?_⟩
        · have e : acells (L.take (i + 1)) = acells (L.take i) ++ [.int .i64 xr, .int .i64 xp] := by
            rw [List.take_succ_eq_append_getElem hLi, acells_append, ← HX.out]; rfl
          rw [e]; exact hown3
        · refine ⟨hf3.os.trans HBEL.out.os, hf3.tape.trans HBEL.out.tape, hf3.output.trans HBEL.out.output, ?_, fun q hq => ?_⟩
          · have := hf3.size
            simp at this
            omega
          · rw [hf3.other q (by simp; omega) (fun he => by have := (HOWN.out.lt he).1; omega), Below.heap_alloc _ _ _ (by simp; omega), Below.heap_alloc _ _ _ (by omega)]
            exact HBEL.out.block q hq
      case measure => simp [intOf]; omega
    · have he : i = n := by omega
      subst he
      obtain ⟨g1, o1, hao, hg1⟩ : ∃ g1 o1, ao = some ⟨g1, o1, none⟩ ∧ w.heap.size ≤ g1 := by
        rcases hown.2 with ⟨_, h⟩ | ⟨g', o', cap', cur, he, h1, h2, _⟩
        · omega
        · simp only [Value.slice.injEq] at he
          exact ⟨g', o', he.1, h1⟩
      subst hao
      rw [List.take_of_length_le (by rw [HN.out]; exact Nat.le_refl _)] at hown
      have HOWN : Hid (OwnR wr w.heap.size 116 2 (.slice (some ⟨g1, o1, none⟩) i c) i (acells L)) := hown
      have HBEL : Hid (Below w.heap.size w wr) := hbel
      clear hown hbel
      go_wp2_with (first | (go_at_call 67; refine (sort_any L i HN.out h4 w.heap.size g1 o1 c _ HOWN.out).mono ?_; rintro e w1 ⟨rfl, hs1, hs2, hs3, hs4, hs5, hs6⟩) | (go_at_call 69; refine (compact_any (L.mergeSort leB) i (by rw [List.length_mergeSort]; exact HN.out) h0 h4 w.heap.size g1 o1 c _ hs1).mono ?_; rintro e w2 ⟨rfl, hd1, hd2⟩))
      have HBE : Hid (Below w.heap.size w w2) := by
        have hg1l : g1 < wr.heap.size := (HOWN.out.lt rfl).2
        refine ⟨hd2.os.trans (hs4.trans HBEL.out.os), hd2.tape.trans (hs5.trans HBEL.out.tape), hd2.output.trans (hs6.trans HBEL.out.output), ?_, fun q hq => ?_⟩
        · have h1 := HBEL.out.size
          have h2 := hd2.size
          omega
        · have h1 := HBEL.out.size
          rw [hd2.other q (by omega), hs2 q (by omega) (by omega)]
          exact HBEL.out.block q hq
      have hSS : uniq (L.mergeSort leB) = canon L := rfl
      rw [hSS] at hd1 ⊢
      have HSO : Hid (∀ j (hj : j < (canon L).length), okA (canon L)[j]) := fun j hj => HOK.out _ ((mem_canon L _).1 (List.getElem_mem hj))
      have hm4 : (canon L).length ≤ 400 := Nat.le_trans (canon_length L) (by have := HN.out; omega)
      obtain ⟨S, hS⟩ : ∃ S, S = canon L := ⟨_, rfl⟩
      rw [← hS] at hd1 HSO hm4 ⊢
      obtain ⟨m, hm⟩ : ∃ m, m = S.length := ⟨_, rfl⟩
      have HM : Hid (m = S.length) := hm
      have HSS : Hid (S = canon L) := hS
      rw [← hm] at hd1 hm4 ⊢
      have HS2 : Hid (OwnR w2 w.heap.size 116 2 (.slice (some ⟨g1, o1, none⟩) m c) m (acells S)) := hd1
      clear hd1 hd2 hs1 hs2 hs3 hs4 hs5 hs6 hS hm hSS HA HOK
      go_loopw [28] (fun iv wx => ∃ q : Nat, q ≤ m ∧ iv = .int .i64 q ∧ TbI w wx Tb k S q ∧ OwnR wx w.heap.size 116 2 (.slice (some ⟨g1, o1, none⟩) m c) m (acells S)) (fun iv _ => m - (intOf iv).toNat)
      case atStart =>
        exact ⟨0, Nat.zero_le _, rfl, ⟨_, (HBE.out.block Tb hltT).trans HB.out, OwnR.nil _ _ _ _, ⟨HBE.out.os, HBE.out.tape, HBE.out.output, HBE.out.size, fun j hj _ => HBE.out.block j hj⟩⟩, HS2.out⟩
      case round =>
        obtain ⟨q, hq, rfl, ⟨v, ht1, ht2, ht3⟩, hrow⟩ := hrel
        by_cases hqm : q < m
        · have hqI : (q : Int) < m := by omega
          have hSq : q < S.length := by rw [← HM.out]; exact hqm
          obtain ⟨c1, c2⟩ := hrow.ans q hSq
          obtain ⟨x, hx⟩ : ∃ x, x = S[q] := ⟨_, rfl⟩
          rw [← hx] at c1 c2
          have HX : Hid (S.getD q (0, 0) = x) := by
            show S.getD q (0, 0) = x
            rw [hx]; simp [hSq]
          have hxo : okA x := by rw [hx]; exact HSO.out q hSq
          have hsw := ht3.size
          have hTT : ∀ j, j < q → okA ((tb k S q).getD j Lk0).a ∧ 0 ≤ ((tb k S q).getD j Lk0).q ∧ ((tb k S q).getD j Lk0).q ≤ 100000 := fun j hj => by
            have hb := tb_bounds k (by omega) S q j hj
            have hSj : j < S.length := by omega
            refine ⟨?_, by omega, ?_⟩
            · rw [tb_getD k S j q hj]
              simp only
              have : S.getD j (0, 0) = S[j] := by simp [hSj]
              rw [this]; exact HSO.out j hSj
            · have h1 := hb.2.1
              have : 4 * k * ((j : Int) + 1) ≤ 48 * 401 := Int.mul_le_mul (by omega) (by omega) (by omega) (by omega)
              omega
          have hcA := fun ob : Obj => add_any Tb w.heap.size q k (tb k S q) v x (wr.alloc ob) (tb_length k S q) (by omega) hk1 hk2 hxo hTT ((Below.heap_alloc _ _ _ (by omega)).trans ht1) (ht2.other (fun g _ hlt => Below.heap_alloc _ _ _ hlt)) (by simp; omega)
          have HFIN : Hid (∀ (ob : Obj) (w' : World) (v' : Value), w'.heap[Tb]? = some (.cells #[.int .i64 k, v'] 113 (0, 0)) → OwnR w' w.heap.size 118 4 v' (q + 1) (lcells (tb k S q ++ [lkN k (tb k S q) x])) → TFr (wr.alloc ob) w' v Tb v' → TbI w w' Tb k S (q + 1) ∧ OwnR w' w.heap.size 116 2 (.slice (some ⟨g1, o1, none⟩) m c) m (acells S)) := by
            intro ob w' v' a1 a2 a3
            have hsa : (wr.alloc ob).heap.size = wr.heap.size + 1 := by simp
            refine ⟨⟨v', a1, ?_, ?_⟩, ?_⟩
            · have e : tb k S (q + 1) = tb k S q ++ [lkN k (tb k S q) x] := by
                simp only [tb, lkN, tb_length]
                have h := HX.out
                rw [h]
              rw [e]; exact a2
            · refine ⟨a3.os.trans ht3.os, a3.tape.trans ht3.tape, a3.output.trans ht3.output, by have := a3.size; omega, fun j hj hne => ?_⟩
              rw [a3.other j (by omega) hne (fun he => by have := (ht2.lt he).1; omega), Below.heap_alloc _ _ _ (by omega)]
              exact ht3.other j hj hne
            · refine hrow.other (fun g2 hg2 hlt2 => ?_)
              have hg2' : g1 = g2 := by simpa [Value.ownBlock] using hg2
              subst hg2'
              rw [a3.other g1 (by omega) (by omega) (fun he => ?_), Below.heap_alloc _ _ _ hlt2]
              obtain ⟨cur, hcur⟩ : ∃ cur, wr.heap[g1]? = some (.cells cur 116 (0, 0)) := by
                rcases hrow.2 with ⟨h, _⟩ | ⟨g3, o3, cap3, cur, h, _, h2, _⟩
                · simp at h
                · simp only [Value.slice.injEq, Option.some.injEq, Addr.mk.injEq, and_true, true_and] at h
                  obtain ⟨⟨rfl, rfl⟩, rfl⟩ := h
                  exact ⟨cur, h2⟩
              exact ht2.tag (by decide) hcur he
          obtain ⟨xr, xp⟩ := x
          simp only at c1 c2
          have e47 := enter47
          clear hx ht1 ht2 ht3 hrow hTT
          go_wp2_with fail
          refine (hcA _).mono ?_
          rintro e w' ⟨rfl, v', a1, a2, a3⟩
          obtain ⟨f1, f2⟩ := HFIN.out _ w' v' a1 a2 a3
          clear hcA HFIN a1 a2 a3
          go_wp2_with fail
          go_roundw
          case rel => exact ⟨q + 1, by omega, by go_num, f1, f2⟩
          case measure => simp [intOf]; omega
        · have hqe : q = m := by omega
          subst hqe
          go_wp2_with fail
          go_end0
          refine ⟨rfl, ?_⟩
          rw [← HSS.out, ← HM.out]
          exact ⟨v, ht1, ht2, ht3⟩
end Go.Proofs.Ytilcmkiihefkkaa
