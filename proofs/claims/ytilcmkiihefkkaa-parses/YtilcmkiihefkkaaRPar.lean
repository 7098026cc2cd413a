import Derived.Test.YtilcmkiihefkkaaRParA
import Derived.Deep.RegionHeld3
set_option linter.unusedVariables false
set_option linter.unusedSimpArgs false
set_option maxRecDepth 100000
namespace Go.Proofs.Ytilcmkiihefkkaa
open Go.RowKit

theorem OwnR.low {w : World} {base base' : Nat} {e : TypeId} {size : Nat} {v : Value} {n : Nat} {xs : List Value} (h : OwnR w base e size v n xs) (hb : base' ≤ base) : OwnR w base' e size v n xs := by
  obtain ⟨h0, h⟩ := h
  refine ⟨h0, ?_⟩
  rcases h with ⟨rfl, rfl⟩ | ⟨g, o, cap, cur, rfl, h1, h2⟩
  · exact Or.inl ⟨rfl, rfl⟩
  · exact Or.inr ⟨g, o, cap, cur, rfl, by omega, h2⟩

/-- what Parse answers -/
def parseR (s : ByteArray) : List S2 × Nat × Nat := if 8000 < s.size then ([], 1, 0) else parseL 0 [] (linesB s)

set_option maxRecDepth 100000 in
set_option maxHeartbeats 4000000 in
theorem rparse_any (s : ByteArray) (w : World) (hs : s.size ≤ 140737488351232) :
    Calls Try.prog 9 #[.string s] w fun e w' => ∃ v, e = .returned (.tuple #[v, .int .i64 (parseR s).2.1, .int .i64 (parseR s).2.2]) ∧ OwnR w' w.heap.size 70 2 v (parseR s).1.length (qcells (parseR s).1) ∧ ((parseR s).2.1 ≠ 0 → v = .slice none 0 0) ∧ Below w.heap.size w w' := by
  obtain ⟨i0, hi, hz0, hz1, hz2⟩ := info_parts Try.info70
  by_cases h8 : 8000 < s.size
  · have HR : Hid (parseR s = ([], 1, 0)) := by show _ = _; unfold parseR; rw [if_pos h8]
    have c1 : (8000 : Int) < s.size := by omega
    go_enter Try.func9, Try.ntmps9
    go_wp2
    go_ret3
    rw [HR.out]
    exact ⟨_, rfl, OwnR.nil _ _ _ _, fun _ => rfl, Below.refl _ _⟩
  · have HR : Hid (parseR s = parseL 0 [] (linesB s)) := by show _ = _; unfold parseR; rw [if_neg h8]
    have hs8 : s.size ≤ 8000 := by omega
    have c1 : ¬ (8000 : Int) < s.size := by omega
    go_enter Try.func9, Try.ntmps9
    go_wp2_with fail
    refine (lines_any s w hs8).mono ?_
    rintro e w1 ⟨lv, rfl, hlo, hb1⟩
    have hll := linesB_length s
    have hlz := linesB_size s
    obtain ⟨LS, hLS⟩ : ∃ LS, LS = linesB s := ⟨_, rfl⟩
    rw [← hLS] at hlo hll hlz
    have HLS : Hid (parseR s = parseL 0 [] LS) := by rw [hLS]; exact HR.out
    obtain ⟨N, hN⟩ : ∃ N, N = LS.length := ⟨_, rfl⟩
    have HN : Hid (N = LS.length) := hN
    rw [← hN] at hlo hll
    obtain ⟨lao, lc, hlv⟩ : ∃ ao c, lv = .slice ao N c := by
      rcases hlo.2 with ⟨h, h0⟩ | ⟨g, o, cap, cur, h, _⟩
      · exact ⟨_, _, by rw [h, h0]⟩
      · exact ⟨_, _, h⟩
    subst hlv
    have HLO : Hid (OwnR w1 w.heap.size 9 1 (.slice lao N lc) N (tcells LS)) := hlo
    have HLZ : Hid (∀ x ∈ LS, x.size ≤ s.size) := hlz
    have HB1 : Hid (Below w.heap.size w w1) := hb1
    have hw1 := hb1.size
    clear hlo hlz hb1 hN hLS HR
    go_wp2
    go_loopw [5, 7] (fun v i wx => ∃ (k : Nat) (L : List S2), k ≤ N ∧ i = .int .i64 k ∧ L.length ≤ k ∧ Small L k ∧ OwnR wx w1.heap.size 70 2 v L.length (qcells L) ∧ parseR s = parseL k L (LS.drop k) ∧ Below w1.heap.size w1 wx) (fun _ i _ => N - (intOf i).toNat)
    case atStart => exact ⟨0, [], Nat.zero_le _, rfl, Nat.zero_le _, fun y hy => absurd hy (by simp), OwnR.nil _ _ _ _, HLS.out, Below.refl _ _⟩
    case round =>
      obtain ⟨k, L, hk, rfl, hLk, hsm, hown, hpr, hbel⟩ := hrel
      have HPR : Hid (parseR s = parseL k L (LS.drop k)) := hpr
      have HBL : Hid (Below w1.heap.size w1 wr) := hbel
      have HSM : Hid (Small L k) := hsm
      have hszr := hbel.size
      have HBB : Hid (Below w.heap.size w wr) := HB1.out.trans (hbel.mono hw1)
      obtain ⟨ao, c, hv⟩ : ∃ ao c, u5 = .slice ao L.length c := by
        rcases hown.2 with ⟨h, h0⟩ | ⟨g, o, cap, cur, h, _⟩
        · exact ⟨_, _, by rw [h, h0]⟩
        · exact ⟨_, _, h⟩
      obtain ⟨n, hn⟩ : ∃ n, n = L.length := ⟨_, rfl⟩
      have HNL : Hid (n = L.length) := hn
      have HOW : Hid (OwnR wr w1.heap.size 70 2 u5 L.length (qcells L)) := hown
      rw [← hn] at hv hown hLk
      subst hv
      clear hpr hbel hsm hn
      by_cases hkN : k < N
      · have hkS : k < LS.length := by rw [← HN.out]; exact hkN
        have hkI : (k : Int) < N := by omega
        obtain ⟨lg, lo, hlao, hlgl, hlc⟩ : ∃ g o, lao = some ⟨g, o, none⟩ ∧ g < w1.heap.size ∧ w1.cell? ⟨g, o + k, none⟩ = some (.string LS[k]) := by
          rcases HLO.out.2 with ⟨_, h⟩ | ⟨g, o, cap, cur, h, _, h2, _, _, _, h6⟩
          · omega
          · simp only [Value.slice.injEq] at h
            refine ⟨g, o, h.1, lt_of_block h2, cell_at h2 (h6 _ _ ?_)⟩
            unfold tcells
            rw [List.getElem?_map, List.getElem?_eq_getElem hkS]
            rfl
        subst hlao
        have hxz := HLZ.out LS[k] (List.getElem_mem hkS)
        have HDR : Hid (LS.drop k = LS[k] :: LS.drop (k + 1)) := List.drop_eq_getElem_cons hkS
        obtain ⟨x, hx⟩ : ∃ x, x = LS[k] := ⟨_, rfl⟩
        rw [← hx] at hlc hxz HDR
        clear hx
        have a1 : wr.cell? ⟨lg, lo + k, none⟩ = some (.string x) := (HBL.out.cell hlgl).trans hlc
        have htz := tl_size x
        clear hlc
        by_cases hbg : begins x
        · have hx0 : 0 < x.size := hbg.1
          have hxI : (0 : Int) < x.size := by omega
          have hx1 : (1 : Int) ≤ x.size := by omega
          have hne : (x.toList == ([] : List UInt8)) = false := by
            rw [ByteArray.toList_eq]
            cases hl : x.data.toList with
            | nil => have := list_len x; rw [hl] at this; simp at this; omega
            | cons c r => rfl
          have h62 : x[0] = 62 := hbg.2
          have d1 : (x[0].toNat : Int) = 62 := by rw [h62]; rfl
          have HBG : Hid (begins x) := hbg
          clear hbg
          go_wp2_with fail
          refine (rname_any (tl x) _ (by omega)).mono ?_
          rintro e w2 ⟨h2, rfl⟩
          rcases h2 with ⟨hnm, rfl⟩ | ⟨hnm, rfl⟩
          · have HNM : Hid (nameOK (tl x)) := hnm
            clear hnm
            go_wp2_with fail
            refine (has_any L (tl x) w1.heap.size (.slice ao n c) _ (by have := HNL.out; omega) HOW.out).mono ?_
            rintro e w3 ⟨h3, rfl⟩
            rcases h3 with ⟨hhs, rfl⟩ | ⟨hhs, rfl⟩
            · have HP : Hid (parseR s = ([], 5, k)) := by show _ = _; rw [HPR.out, HDR.out]; exact parseL_err (pstep_twice HBG.out HNM.out hhs) (by decide)
              clear hhs
              go_wp2
              go_ret3
              rw [HP.out]
              exact ⟨_, rfl, OwnR.nil _ _ _ _, fun _ => rfl, HBB.out⟩
            · have HP : Hid (parseR s = parseL (k + 1) (L ++ [⟨tl x, ⟨#[]⟩⟩]) (LS.drop (k + 1))) := by show _ = _; rw [HPR.out, HDR.out]; exact parseL_ok (pstep_begin HBG.out HNM.out hhs)
              clear hhs
              go_wp2_with (at_builtin; refine wpList_own _ rfl (.tmp 52) (.tmp 55) 22 rfl 70 i0 _ 2 32 Try.underlying22 hi hz0 hz1 hz2 rfl (by decide) w1.heap.size (.slice ao n c) n (qcells L) rfl (by exact hown.other (fun g _ hlt => Below.heap_alloc _ _ _ hlt)) ⟨w3.heap.size, 0, none⟩ 1 [.string (tl x), .string ⟨#[]⟩] rfl rfl (by exact pbox_cells _ _ _ _ _ rfl) (seq_oneCell _ _) (by unfold maxLen; omega) (by omega) (by simp; omega) ?_; intro g' o' cap' w4 hown' hfr)
              go_roundw
              case rel =>
                refine ⟨k + 1, L ++ [⟨tl x, ⟨#[]⟩⟩], by omega, by go_num, by rw [List.length_append, ← HNL.out]; show n + 1 ≤ _; omega, ?_, ?_, HP.out, ?_⟩
                · intro y hy
                  rw [List.mem_append] at hy
                  rcases hy with hy | hy
                  · exact (HSM.out.mono (Nat.le_succ k)) y hy
                  · simp at hy; subst hy; exact Nat.zero_le _
                · rw [List.length_append, ← HNL.out, qcells_append]
                  exact hown'
                · exact (HBL.out.alloc HBL.out.size _).trans (hfr.below (fun g hg => (HOW.out.lt hg).1) (by simp; omega))
              case measure => simp [intOf]; omega
          · have HP : Hid (parseR s = ([], 4, k)) := by show _ = _; rw [HPR.out, HDR.out]; exact parseL_err (pstep_name HBG.out hnm) (by decide)
            clear hnm
            go_wp2
            go_ret3
            rw [HP.out]
            exact ⟨_, rfl, OwnR.nil _ _ _ _, fun _ => rfl, HBB.out⟩
        · by_cases hx0 : 0 < x.size
          · have hxI : (0 : Int) < x.size := by omega
            have hne : (x.toList == ([] : List UInt8)) = false := by
              rw [ByteArray.toList_eq]
              cases hl : x.data.toList with
              | nil => have := list_len x; rw [hl] at this; simp at this; omega
              | cons c r => rfl
            have d1 : ¬ (x[0].toNat : Int) = 62 := fun h => hbg ⟨hx0, UInt8.toNat_inj.1 (by have : x[0].toNat = 62 := (by omega); rw [this]; rfl)⟩
            have HBG : Hid (¬ begins x) := hbg
            clear hbg
            by_cases hn0 : n = 0
            · have HP : Hid (parseR s = ([], 3, k)) := by show _ = _; rw [HPR.out, HDR.out]; exact parseL_err (pstep_line HBG.out (List.eq_nil_of_length_eq_zero (by rw [← HNL.out, hn0]))) (by decide)
              subst hn0
              go_wp2
              go_ret3
              rw [HP.out]
              exact ⟨_, rfl, OwnR.nil _ _ _ _, fun _ => rfl, HBB.out⟩
            · obtain ⟨m, rfl⟩ : ∃ m, n = m + 1 := ⟨n - 1, by omega⟩
              have HNE : Hid (L ≠ []) := fun h => by have := HNL.out; rw [h] at this; simp at this
              go_wp2_with fail
              refine (bases_any x _ (by omega)).mono ?_
              rintro e w2 ⟨h2, rfl⟩
              rcases h2 with ⟨hgd, rfl⟩ | ⟨hgd, rfl⟩
              · have HGD : Hid (good x) := hgd
                obtain ⟨A, y, hAy⟩ := snoc_of HNE.out
                have HAY : Hid (L = A ++ [y]) := hAy
                have hyz : y.b.size ≤ 8000 * k := HSM.out y (by rw [hAy]; simp)
                have hAl : A.length = m := by have := HNL.out; rw [hAy] at this; simp at this; omega
                have HAL : Hid (A.length = m) := hAl
                have HP : Hid (parseR s = parseL (k + 1) (A ++ [⟨y.n, y.b ++ x⟩]) (LS.drop (k + 1))) := by show _ = _; rw [HPR.out, HDR.out, parseL_ok (pstep_bases HBG.out HNE.out hgd), hAy, addB_snoc]
                obtain ⟨g, o, hao, hgl⟩ : ∃ g o, ao = some ⟨g, o, none⟩ ∧ ∃ cur, w2.heap[g]? = some (.cells cur 70 (0, 0)) ∧ o + (m + 1) * 2 ≤ cur.size := by
                  rcases hown.2 with ⟨_, h⟩ | ⟨g, o, cap, cur, h, _, h2, h3, _, h5, _⟩
                  · omega
                  · simp only [Value.slice.injEq] at h
                    exact ⟨g, o, h.1, cur, h2, Nat.le_trans (Nat.add_le_add_left (Nat.mul_le_mul_right 2 h3) o) h5⟩
                subst hao
                obtain ⟨cur, hgc, hgs⟩ := hgl
                obtain ⟨b1, b2⟩ := hown.seqs m (by rw [hAy]; simp; omega)
                have hLm : L[m]'(by rw [hAy]; simp; omega) = y := by simp [hAy, ← hAl]
                rw [hLm] at b1 b2
                have f1 : w2.frozen? ⟨g, o + m * 2, none⟩ = false := frozen_of_row _ _ _ _ _ hgc
                have f2 : w2.frozen? ⟨g, o + m * 2 + 1, none⟩ = false := frozen_of_row _ _ _ _ _ hgc
                have HSET : Hid (OwnR ((w2.setCell ⟨g, o + m * 2, none⟩ (.string y.n)).setCell ⟨g, o + m * 2 + 1, none⟩ (.string (y.b ++ x))) w1.heap.size 70 2 (.slice (some ⟨g, o, none⟩) (m + 1) c) (m + 1) (qcells (L.set m ⟨y.n, y.b ++ x⟩))) := hown.set2 (HNL.out.symm) m (by omega) ⟨y.n, y.b ++ x⟩
                have HLS2 : Hid (L.set m ⟨y.n, y.b ++ x⟩ = A ++ [⟨y.n, y.b ++ x⟩]) := by
                  show _ = _
                  rw [hAy, ← hAl]
                  simp
                have e1 : ((m + 1 : Nat) : Int) - 1 = m := by omega
                have e2 : (m : Int) < ((m + 1 : Nat) : Int) := by omega
                have HUP : ∀ v1 v2, Hid (Below w1.heap.size w2 ((w2.setCell ⟨g, o + m * 2, none⟩ v1).setCell ⟨g, o + m * 2 + 1, none⟩ v2)) := fun v1 v2 => ((Upd.of_setCell (i := o + m * 2) v1 hgc).setCell (i := o + m * 2 + 1) v2).below (HOW.out.lt rfl).1
                have HY : Hid (y.b.size ≤ 8000 * k) := hyz
                clear hgc hgs hAy hgd hown hLm
                go_wp2
                go_region
                go_wp2
                go_roundw
                case rel =>
                  refine ⟨k + 1, A ++ [⟨y.n, y.b ++ x⟩], by omega, by go_num, by rw [List.length_append, HAL.out]; show m + 1 ≤ _; omega, ?_, ?_, HP.out, ?_⟩
                  · intro z hz
                    rw [List.mem_append] at hz
                    rcases hz with hz | hz
                    · exact (HSM.out.mono (Nat.le_succ k)) z (by rw [HAY.out]; simp [hz])
                    · simp at hz; subst hz
                      show (y.b ++ x).size ≤ _
                      rw [ByteArray.size_append]
                      have := HY.out
                      omega
                  · have e : (A ++ [(⟨y.n, y.b ++ x⟩ : S2)]).length = m + 1 := by rw [List.length_append, HAL.out]; rfl
                    rw [e, ← HLS2.out]
                    exact HSET.out.other (fun _ _ _ => rfl)
                  · have := HBL.out.trans (HUP (.string y.n) (.string (y.b ++ x))).out
                    exact ⟨this.os, this.tape, this.output, this.size, this.block⟩
                case measure => simp [intOf]; omega
              · have HP : Hid (parseR s = ([], 2, k)) := by show _ = _; rw [HPR.out, HDR.out]; exact parseL_err (pstep_byte HBG.out HNE.out hgd) (by decide)
                clear hgd
                go_wp2
                go_ret3
                rw [HP.out]
                exact ⟨_, rfl, OwnR.nil _ _ _ _, fun _ => rfl, HBB.out⟩
          · have hne : (x.toList == ([] : List UInt8)) = true := by
              rw [ByteArray.toList_eq]
              cases hl : x.data.toList with
              | nil => rfl
              | cons c r => have := list_len x; rw [hl] at this; simp at this; omega
            have HBG : Hid (¬ begins x) := hbg
            clear hbg
            by_cases hn0 : n = 0
            · have HP : Hid (parseR s = ([], 3, k)) := by show _ = _; rw [HPR.out, HDR.out]; exact parseL_err (pstep_line HBG.out (List.eq_nil_of_length_eq_zero (by rw [← HNL.out, hn0]))) (by decide)
              subst hn0
              go_wp2
              go_ret3
              rw [HP.out]
              exact ⟨_, rfl, OwnR.nil _ _ _ _, fun _ => rfl, HBB.out⟩
            · obtain ⟨m, rfl⟩ : ∃ m, n = m + 1 := ⟨n - 1, by omega⟩
              have HNE : Hid (L ≠ []) := fun h => by have := HNL.out; rw [h] at this; simp at this
              go_wp2_with fail
              refine (bases_any x _ (by omega)).mono ?_
              rintro e w2 ⟨h2, rfl⟩
              rcases h2 with ⟨hgd, rfl⟩ | ⟨hgd, rfl⟩
              · have HGD : Hid (good x) := hgd
                obtain ⟨A, y, hAy⟩ := snoc_of HNE.out
                have HAY : Hid (L = A ++ [y]) := hAy
                have hyz : y.b.size ≤ 8000 * k := HSM.out y (by rw [hAy]; simp)
                have hAl : A.length = m := by have := HNL.out; rw [hAy] at this; simp at this; omega
                have HAL : Hid (A.length = m) := hAl
                have HP : Hid (parseR s = parseL (k + 1) (A ++ [⟨y.n, y.b ++ x⟩]) (LS.drop (k + 1))) := by show _ = _; rw [HPR.out, HDR.out, parseL_ok (pstep_bases HBG.out HNE.out hgd), hAy, addB_snoc]
                obtain ⟨g, o, hao, hgl⟩ : ∃ g o, ao = some ⟨g, o, none⟩ ∧ ∃ cur, w2.heap[g]? = some (.cells cur 70 (0, 0)) ∧ o + (m + 1) * 2 ≤ cur.size := by
                  rcases hown.2 with ⟨_, h⟩ | ⟨g, o, cap, cur, h, _, h2, h3, _, h5, _⟩
                  · omega
                  · simp only [Value.slice.injEq] at h
                    exact ⟨g, o, h.1, cur, h2, Nat.le_trans (Nat.add_le_add_left (Nat.mul_le_mul_right 2 h3) o) h5⟩
                subst hao
                obtain ⟨cur, hgc, hgs⟩ := hgl
                obtain ⟨b1, b2⟩ := hown.seqs m (by rw [hAy]; simp; omega)
                have hLm : L[m]'(by rw [hAy]; simp; omega) = y := by simp [hAy, ← hAl]
                rw [hLm] at b1 b2
                have f1 : w2.frozen? ⟨g, o + m * 2, none⟩ = false := frozen_of_row _ _ _ _ _ hgc
                have f2 : w2.frozen? ⟨g, o + m * 2 + 1, none⟩ = false := frozen_of_row _ _ _ _ _ hgc
                have HSET : Hid (OwnR ((w2.setCell ⟨g, o + m * 2, none⟩ (.string y.n)).setCell ⟨g, o + m * 2 + 1, none⟩ (.string (y.b ++ x))) w1.heap.size 70 2 (.slice (some ⟨g, o, none⟩) (m + 1) c) (m + 1) (qcells (L.set m ⟨y.n, y.b ++ x⟩))) := hown.set2 (HNL.out.symm) m (by omega) ⟨y.n, y.b ++ x⟩
                have HLS2 : Hid (L.set m ⟨y.n, y.b ++ x⟩ = A ++ [⟨y.n, y.b ++ x⟩]) := by
                  show _ = _
                  rw [hAy, ← hAl]
                  simp
                have e1 : ((m + 1 : Nat) : Int) - 1 = m := by omega
                have e2 : (m : Int) < ((m + 1 : Nat) : Int) := by omega
                have HUP : ∀ v1 v2, Hid (Below w1.heap.size w2 ((w2.setCell ⟨g, o + m * 2, none⟩ v1).setCell ⟨g, o + m * 2 + 1, none⟩ v2)) := fun v1 v2 => ((Upd.of_setCell (i := o + m * 2) v1 hgc).setCell (i := o + m * 2 + 1) v2).below (HOW.out.lt rfl).1
                have HY : Hid (y.b.size ≤ 8000 * k) := hyz
                clear hgc hgs hAy hgd hown hLm
                go_wp2
                go_region
                go_wp2
                go_roundw
                case rel =>
                  refine ⟨k + 1, A ++ [⟨y.n, y.b ++ x⟩], by omega, by go_num, by rw [List.length_append, HAL.out]; show m + 1 ≤ _; omega, ?_, ?_, HP.out, ?_⟩
                  · intro z hz
                    rw [List.mem_append] at hz
                    rcases hz with hz | hz
                    · exact (HSM.out.mono (Nat.le_succ k)) z (by rw [HAY.out]; simp [hz])
                    · simp at hz; subst hz
                      show (y.b ++ x).size ≤ _
                      rw [ByteArray.size_append]
                      have := HY.out
                      omega
                  · have e : (A ++ [(⟨y.n, y.b ++ x⟩ : S2)]).length = m + 1 := by rw [List.length_append, HAL.out]; rfl
                    rw [e, ← HLS2.out]
                    exact HSET.out.other (fun _ _ _ => rfl)
                  · have := HBL.out.trans (HUP (.string y.n) (.string (y.b ++ x))).out
                    exact ⟨this.os, this.tape, this.output, this.size, this.block⟩
                case measure => simp [intOf]; omega
              · have HP : Hid (parseR s = ([], 2, k)) := by show _ = _; rw [HPR.out, HDR.out]; exact parseL_err (pstep_byte HBG.out HNE.out hgd) (by decide)
                clear hgd
                go_wp2
                go_ret3
                rw [HP.out]
                exact ⟨_, rfl, OwnR.nil _ _ _ _, fun _ => rfl, HBB.out⟩
      · have HP : Hid (parseR s = (L, 0, 0)) := by
          show _ = _
          rw [HPR.out, List.drop_eq_nil_of_le (by rw [← HN.out]; omega), parseL]
        go_wp2
        go_ret3
        rw [HP.out]
        refine ⟨_, rfl, ?_, fun h => absurd rfl h, HBB.out⟩
        exact HOW.out.low hw1
end Go.Proofs.Ytilcmkiihefkkaa
