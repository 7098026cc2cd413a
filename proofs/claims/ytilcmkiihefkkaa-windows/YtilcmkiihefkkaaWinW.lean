import Derived.Test.YtilcmkiihefkkaaWinA
set_option linter.unusedVariables false
set_option linter.unusedSimpArgs false
namespace Go.Proofs.Ytilcmkiihefkkaa
open Go.RowKit

set_option maxRecDepth 100000 in
set_option maxHeartbeats 8000000 in
theorem windows_any (text : ByteArray) (kk ww : Int) (w : World) (hs : text.size ≤ 140737488351232) (hkk : -9223372036854775808 ≤ kk ∧ kk ≤ 9223372036854775807) (hww : -9223372036854775808 ≤ ww ∧ ww ≤ 9223372036854775807) :
    Calls Try.prog 5 #[.string text, .int .i64 kk, .int .i64 ww] w fun e w' => e = .returned (.bool true) ∧ Below w.heap.size w w' := by
  obtain ⟨s0, hs0⟩ : ∃ s0 : ByteArray, s0 = ⟨(cleanL text.data.toList 300).toArray⟩ := ⟨_, rfl⟩
  have hl0 : ∀ c ∈ s0.data.toList, 0 ≤ numb c := by rw [hs0]; simpa using cleanL_good text.data.toList 300
  have hsz0 : s0.size ≤ 300 := by rw [hs0, size_mk, cleanL_length]; omega
  have hg0 : good s0 := by have := list_good hl0; rwa [mk_data] at this
  obtain ⟨i0, hi, hz0, hz1, hz2⟩ := info_parts Try.info50
  have HS0 : Hid (s0 = ⟨(cleanL text.data.toList 300).toArray⟩) := hs0
  have HL0 : Hid (∀ c ∈ s0.data.toList, 0 ≤ numb c) := hl0
  have HG0 : Hid (good s0) := hg0
  clear hs0 hl0 hg0
  go_enter Try.func5, Try.ntmps5
  go_wp2_with fail
  refine (reads_any w).mono ?_
  rintro e w1 ⟨rfl, hb1⟩
  go_wp2_with fail
  refine (clean_any text w1 hs).mono ?_
  rintro e w1' ⟨rfl, rfl⟩
  rw [← HS0.out]
  go_wp2_with fail
  refine (lpick_any kk 12 _ hkk (by omega) (by omega)).mono ?_
  rintro e w1'' ⟨r, rfl, hr, rfl⟩
  obtain ⟨k, hk⟩ : ∃ k : Nat, (1 : Int) + r = k := ⟨1 + r, by omega⟩
  have hk1 : 1 ≤ k := by omega
  have hk2 : k ≤ 12 := by omega
  go_wp2_with fail
  refine (lpick_any ww 20 _ hww (by omega) (by omega)).mono ?_
  rintro e w1x ⟨r2, rfl, hr2, rfl⟩
  obtain ⟨W, hW⟩ : ∃ W : Nat, (1 : Int) + r2 = W := ⟨1 + r2, by omega⟩
  have hW1 : 1 ≤ W := by omega
  have hW2 : W ≤ 20 := by omega
  go_wp2_with fail
  refine (words_any s0 k 1 _ (by omega) hk1 hk2 (by omega) (by omega)).mono ?_
  rintro e w4 ⟨h4, hb4⟩
  obtain ⟨lv, rfl, hol⟩ : ∃ pv, e = .returned (.tuple #[pv, .int .i64 0]) ∧ OwnR w4 w1x.heap.size 50 3 pv (allW (nums s0.data.toList) k).length (wcells (allW (nums s0.data.toList) k)) := by
    rcases h4 with ⟨_, pv, h, ho⟩ | ⟨h, _⟩
    · have e1 := words1 k hk1 hk2 s0.data.toList (good_getD HL0.out) (nums_lt5 _)
      rw [show s0.data.toList.length = s0.size from Array.length_toList] at e1
      rw [e1] at ho
      exact ⟨pv, h, ho⟩
    · exact absurd HG0.out h
  clear h4
  go_wp2_with fail
  refine (words_any s0 k W w4 (by omega) hk1 hk2 hW1 hW2).mono ?_
  rintro e w5 ⟨h5, hb5⟩
  obtain ⟨mv, rfl, hom⟩ : ∃ pv, e = .returned (.tuple #[pv, .int .i64 0]) ∧ OwnR w5 w4.heap.size 50 3 pv (pkRun k W (nums s0.data.toList) (s0.size + 1 - k)).M.length (wcells (pkRun k W (nums s0.data.toList) (s0.size + 1 - k)).M) := by
    rcases h5 with ⟨_, pv, h, ho⟩ | ⟨h, _⟩
    · have e1 := wordsW k W hk1 hk2 s0.data.toList (good_getD HL0.out)
      rw [show s0.data.toList.length = s0.size from Array.length_toList] at e1
      rw [e1] at ho
      exact ⟨pv, h, ho⟩
    · exact absurd HG0.out h
  clear h5
  have hLp := allW_p2 (nums s0.data.toList) k
  have hLl := allW_length (nums s0.data.toList) k
  have hnl : (nums s0.data.toList).length = s0.size := by simp [nums]
  rw [hnl] at hLp hLl
  have HNL : Hid ((nums s0.data.toList).length = s0.size) := hnl
  clear hnl
  obtain ⟨A, hA⟩ : ∃ A, A = allW (nums s0.data.toList) k := ⟨_, rfl⟩
  rw [← hA] at hLp hLl hol
  have HA : Hid (A = allW (nums s0.data.toList) k) := hA
  have HLP : Hid (∀ x ∈ A, 0 ≤ x.p ∧ x.p + k ≤ s0.size) := hLp
  clear hLp hA
  have hol5 : OwnR w5 w1x.heap.size 50 3 lv A.length (wcells A) := hol.other (fun g hg hlt => hb5.block g hlt)
  obtain ⟨lcap, lao, n, hlv, HN⟩ : ∃ lcap lao n, lv = .slice lao n lcap ∧ Hid (n = A.length) := by
    rcases hol.2 with ⟨h, h0⟩ | ⟨g, o, cap, cur, h, _⟩
    · exact ⟨_, _, 0, h, h0.symm⟩
    · exact ⟨_, _, A.length, h, rfl⟩
  subst hlv
  have hn301 : n ≤ 301 := by have := HN.out; omega
  have HOM : Hid (OwnR w5 w4.heap.size 50 3 mv (pkRun k W (nums s0.data.toList) (s0.size + 1 - k)).M.length (wcells (pkRun k W (nums s0.data.toList) (s0.size + 1 - k)).M)) := hom
  have HOL : Hid (OwnR w5 w1x.heap.size 50 3 (.slice lao n lcap) A.length (wcells A)) := hol5
  have HBB : Hid (Below w.heap.size w w5) := (hb1.trans (hb4.mono hb1.size)).trans (hb5.mono (Nat.le_trans hb1.size hb4.size))
  have HSZ : Hid (w.heap.size ≤ w5.heap.size) := HBB.out.size
  clear hom hol hol5 hb1 hb4 hb5
  have hz48 := zero48
  have HST : Hid (∀ p, p < 300 → falses[p]? = some (Value.bool ((fun _ => false) p))) := by
    intro p hp
    unfold falses
    rw [Array.getElem?_replicate, if_pos hp]
  have hlal : (nums s0.data.toList).length = s0.size := HNL.out
  obtain ⟨a, ha⟩ : ∃ a, a = nums s0.data.toList := ⟨_, rfl⟩
  rw [← ha] at hlal
  have HAL : Hid (a.length = s0.size) := hlal
  have HAA : Hid (a = nums s0.data.toList) := ha
  clear hlal ha
  go_wp2
  go_loopw [14] (fun i wr => ∃ m : Nat, i = .int .i64 m ∧ m ≤ 300 ∧ StI a k W w5.heap.size (w5.alloc (.cells falses 48)) m wr) (fun i _ => 301 - (intOf i).toNat)
  case atStart =>
    refine ⟨0, rfl, by omega, falses, fun _ => false, fun i hi => absurd hi (by omega), ⟨rfl, rfl, rfl, rfl, heap_alloc_new w5 _, fun _ _ => rfl⟩, by unfold falses; simp, HST.out, ?_⟩
    intro p
    constructor
    · intro h; simp at h
    · intro ⟨i, hi, _⟩; omega
  case round =>
    obtain ⟨m, rfl, hm300, hst⟩ := hrel
    have HSTI : Hid (StI a k W w5.heap.size (w5.alloc (.cells falses 48)) m wr) := hst
    clear hst hz48
    obtain ⟨w7, hw7⟩ : ∃ w7, w7 = wr := ⟨_, rfl⟩
    subst hw7
    by_cases hin : m + k + W - 1 ≤ s0.size
    · have hinI : (m : Int) + k + W - 1 ≤ s0.size := by omega
      go_wp2
      go_loop [15, 16] (fun wh j => ∃ jj : Nat, m ≤ jj ∧ jj ≤ m + k + W - 1 ∧ j = .int .i64 jj ∧ wh = .bool (wholeB a m jj)) (fun _ j => 400 - (intOf j).toNat)
      case atStart => exact ⟨m, Nat.le_refl _, by omega, rfl, by unfold wholeB; simp; intros; omega⟩
      case round =>
        obtain ⟨jj, hj1, hj2, rfl, rfl⟩ := hrel
        by_cases hjj : jj < m + k + W - 1
        · have hjI : (jj : Int) < (m : Int) + k + W - 1 := by omega
          have hjs : jj < s0.size := by omega
          have hN := numb_N s0[jj] (HG0.out jj hjs)
          have hget : a.getD jj 0 = (numb s0[jj]).toNat := by
            rw [HAA.out, ← nums_getD _ _ (by simpa using hjs), List.getD_eq_getElem?_getD, List.getElem?_eq_getElem (by simpa using hjs), Array.getElem_toList]
            rfl
          have HWS : Hid (wholeB a m (jj + 1) = (wholeB a m jj && decide ((numb s0[jj]).toNat < 4))) := by
            show _ = _
            rw [wholeB_succ a m jj hj1, hget]
          clear hget
          generalize wholeB a m jj = b at *
          generalize decide ((numb s0[jj]).toNat < 4) = c at *
          have hN2 : ((s0[jj].toNat : Int) != 78) = c := by rw [bne, hN]; simp
          clear hN
          cases b with
          | true =>
            go_wp2
            go_round
            case rel => exact ⟨jj + 1, by omega, by omega, by go_num, by rw [HWS.out]; rfl⟩
            case measure => simp [intOf]; omega
          | false =>
            go_wp2
            go_round
            case rel => exact ⟨jj + 1, by omega, by omega, by go_num, by rw [HWS.out]; rfl⟩
            case measure => simp [intOf]; omega
        · have hjeq : jj = m + k + W - 1 := by omega
          have HWB : Hid (wholeB a m jj = true ↔ IsWin a k W (m + W - 1)) := by
            show _ ↔ _
            rw [win_letters a k W m hk1 hW1 (by rw [HAL.out]; exact hin), hjeq]
            unfold wholeB
            rw [decide_eq_true_iff]
            exact ⟨fun h q h1 h2 => h q h2 h1, fun h q h1 h2 => h q h2 h1⟩
          have hjI : ¬ (jj : Int) < (m : Int) + k + W - 1 := by omega
          clear hjeq
          generalize wholeB a m jj = b at *
          go_wp2
          go_loopw [17, 18] (fun best j wx => ∃ jj mq : Nat, jj ≤ n ∧ j = .int .i64 jj ∧ best = .int .i64 (bestI A m (m + W) jj) ∧ wx = w7.drewN mq) (fun _ j _ => n - (intOf j).toNat)
          case atStart => exact ⟨0, 0, Nat.zero_le _, rfl, rfl, rfl⟩
          case round =>
            obtain ⟨q, mq, hq, rfl, rfl, rfl⟩ := hrel
            have hbsp := bestN_spec A m (m + W) q
            by_cases hqn : q < n
            · obtain ⟨g, o, rfl, hgl, hcl⟩ := cells7 (w7 := w7) HOL.out HN.out (fun g hg => by
                obtain ⟨cs, f, _, hu, _⟩ := HSTI.out
                rw [hu.other g (by omega), Below.heap_alloc _ _ _ hg]) (by omega)
              obtain ⟨e1, e2, e3⟩ := hcl q hqn
              have hqI : (q : Int) < n := by omega
              have HST1 : Hid (∀ (_ : ¬ ((m : Int) ≤ (at3 A q).p ∧ (at3 A q).p < (m : Int) + W ∧ (∀ b, bestN A m (m + W) q = some b → (at3 A q).h < (at3 A b).h))), bestI A m (m + W) (q + 1) = bestI A m (m + W) q) := fun h => bestN_stay h
              have HTK : Hid (∀ (_ : ((m : Int) ≤ (at3 A q).p ∧ (at3 A q).p < (m : Int) + W ∧ (∀ b, bestN A m (m + W) q = some b → (at3 A q).h < (at3 A b).h))), bestI A m (m + W) (q + 1) = q) := fun h => bestN_take h
              by_cases h1 : (m : Int) ≤ (at3 A q).p
              · by_cases h2 : (at3 A q).p < (m : Int) + W
                · cases hb : bestN A m (m + W) q with
                  | none =>
                    have hbi := bestI_none hb
                    have HT := HTK.out ⟨h1, h2, fun b hb' => by rw [hb] at hb'; simp at hb'⟩
                    have HT' : Hid (bestI A m (m + W) (q + 1) = q) := HT
                    rw [hbi]
                    clear hbi hb hbsp HT hcl
                    go_wp2
                    go_quiet (fail)
                    go_wp2
                    go_roundw
                    case rel => exact ⟨q + 1, _, by omega, by go_num, by rw [HT'.out], rfl⟩
                    case measure => simp [intOf]; omega
                  | some bb =>
                    have hbi := bestI_some hb
                    have hbq := (hbsp.2 bb hb).1
                    obtain ⟨d1, d2, d3⟩ := hcl bb (by omega)
                    have hbI : (bb : Int) < n := by omega
                    have hb0 : decide ((bb : Int) < 0) = false := decide_eq_false (by omega)
                    have hb1 : (0 : Int) ≤ bb := by omega
                    by_cases h3 : (at3 A q).h < (at3 A bb).h
                    · have HT := HTK.out ⟨h1, h2, fun b hb' => by rw [hb] at hb'; cases hb'; exact h3⟩
                      have HT' : Hid (bestI A m (m + W) (q + 1) = q) := HT
                      rw [hbi]
                      clear hbi hb hbsp HT hcl
                      go_wp2
                      go_quiet (fail)
                      go_wp2
                      go_roundw
                      case rel => exact ⟨q + 1, _, by omega, by go_num, by rw [HT'.out], rfl⟩
                      case measure => simp [intOf]; omega
                    · have HT := HST1.out (fun h => h3 (h.2.2 bb hb))
                      have HT' : Hid (bestI A m (m + W) (q + 1) = bb) := HT.trans hbi
                      rw [hbi]
                      clear hbi hb hbsp HT hcl
                      go_wp2
                      go_quiet (fail)
                      go_wp2
                      go_roundw
                      case rel => exact ⟨q + 1, _, by omega, by go_num, by rw [HT'.out], rfl⟩
                      case measure => simp [intOf]; omega
                · have HT := HST1.out (fun h => h2 h.2.1)
                  have HT' : Hid (bestI A m (m + W) (q + 1) = bestI A m (m + W) q) := HT
                  have hgd : decide ((at3 A q).p < (m : Int) + W) = false := by simpa using h2
                  generalize bestI A m (m + W) q = bi at *
                  clear hbsp HT hcl
                  go_wp2
                  go_quiet (fail)
                  go_wp2
                  go_roundw
                  case rel => exact ⟨q + 1, _, by omega, by go_num, by rw [HT'.out], rfl⟩
                  case measure => simp [intOf]; omega
              · have HT := HST1.out (fun h => h1 h.1)
                have HT' : Hid (bestI A m (m + W) (q + 1) = bestI A m (m + W) q) := HT
                have hgd : decide ((m : Int) ≤ (at3 A q).p) = false := by simpa using h1
                generalize bestI A m (m + W) q = bi at *
                clear hbsp HT hcl
                go_wp2
                go_quiet (fail)
                go_wp2
                go_roundw
                case rel => exact ⟨q + 1, _, by omega, by go_num, by rw [HT'.out], rfl⟩
                case measure => simp [intOf]; omega
            · obtain rfl : q = n := by omega
              clear hbsp
              have HA2 : Hid (A = allW a k) := by rw [HAA.out]; exact HA.out
              cases b with
              | false =>
                have HNO : Hid (∀ x, ¬ Stands a k W (m + W - 1) x) := fun x hx => by
                  have := HWB.out.2 hx.1
                  simp at this
                generalize bestI A m (m + W) q = bi at *
                go_wp2
                go_roundw
                case rel => exact ⟨m + 1, by go_num, by omega, HSTI.out.stepN (by rw [HAL.out]; exact hin) HNO.out rfl rfl rfl rfl⟩
                case measure => simp [intOf]; omega
              | true =>
                have hiw := HWB.out.1 rfl
                have hbs := best_stands a k W m hk1 hW1 hiw
                rw [← HA2.out, ← HN.out] at hbs
                cases hb : bestN A m (m + W) q with
                | none =>
                  have hbi := bestI_none hb
                  have HNO : Hid (∀ x, ¬ Stands a k W (m + W - 1) x) := hbs.1 hb
                  rw [hbi]
                  clear hbi hb hbs hiw
                  go_wp2
                  go_roundw
                  case rel => exact ⟨m + 1, by go_num, by omega, HSTI.out.stepN (by rw [HAL.out]; exact hin) HNO.out rfl rfl rfl rfl⟩
                  case measure => simp [intOf]; omega
                | some bb =>
                  have hbi := bestI_some hb
                  have hst := hbs.2 bb hb
                  have hbq := ((bestN_spec A m (m + W) q).2 bb hb).1
                  obtain ⟨g, o, rfl, hgl, hcl⟩ := cells7 (w7 := w7) HOL.out HN.out (fun g hg => by
                    obtain ⟨cs, f, _, hu, _⟩ := HSTI.out
                    rw [hu.other g (by omega), Below.heap_alloc _ _ _ hg]) (by omega)
                  obtain ⟨d1, d2, d3⟩ := hcl bb hbq
                  have hbI : (bb : Int) < q := by omega
                  have hpb : 0 ≤ (at3 A bb).p ∧ (at3 A bb).p + k ≤ s0.size := by
                    have := HLP.out (at3 A bb) (by rw [at3_get A bb (by rw [← HN.out]; exact hbq)]; exact List.getElem_mem _)
                    exact this
                  obtain ⟨pn, hpn⟩ : ∃ pn : Nat, (at3 A bb).p = pn := ⟨(at3 A bb).p.toNat, by omega⟩
                  have hpn3 : pn < 300 := by omega
                  have hpnI : (pn : Int) < 300 := by omega
                  obtain ⟨fv, hfc, hff⟩ : ∃ fv, w7.cell? ⟨w5.heap.size, pn, none⟩ = some fv ∧ w7.frozen? ⟨w5.heap.size, pn, none⟩ = false := by
                    obtain ⟨cs, f, _, hu, _, hcs, _⟩ := HSTI.out
                    exact ⟨_, cell_at hu.here (hcs pn hpn3), frozen_of_row _ _ _ _ _ hu.here⟩
                  have HS2 : Hid (Stands a k W (m + W - 1) (at3 A bb) ∧ (at3 A bb).p = pn) := ⟨hst, hpn⟩
                  rw [hpn] at d2
                  rw [hbi]
                  clear hbi hb hbs hiw hst hpn hpb hcl d1 d3
                  go_wp2
                  go_roundw
                  case rel => exact ⟨m + 1, by go_num, by omega, HSTI.out.stepS (by rw [HAL.out]; exact hin) HS2.out.1 HS2.out.2 hpn3 rfl rfl rfl rfl⟩
                  case measure => simp [intOf]; omega
    · obtain ⟨cs, f, hf1, hf2, hf3, hf4, hf5⟩ := HSTI.out
      have HMF : Hid ((pkRun k W (nums s0.data.toList) (s0.size + 1 - k)).M = A.filter (fun x => f x.p.toNat)) := by
        show _ = _
        have := words_filter a k W hk1 hW1 f m (by rw [HAL.out]; omega) hf1 hf5
        rw [HAL.out, HAA.out] at this
        rw [this, HA.out]
      have HOM7 : Hid (OwnR w7 w4.heap.size 50 3 mv (A.filter (fun x => f x.p.toNat)).length (wcells (A.filter (fun x => f x.p.toNat)))) := by
        have := HOM.out
        rw [HMF.out] at this
        exact this.other (fun g hg hlt => by rw [hf2.other g (by omega), Below.heap_alloc _ _ _ hlt])
      have hinI : ¬ (m : Int) + k + W - 1 ≤ s0.size := by omega
      have hsz7 : w7.heap.size = w5.heap.size + 1 := by rw [hf2.size]; simp
      have HSZ7 : Hid (w7.heap.size = w5.heap.size + 1) := hsz7
      have HB7 : Hid (Below w.heap.size w w7) := HBB.out.trans ⟨hf2.os, hf2.tape, hf2.output, by rw [hsz7]; omega, fun q hq => by rw [hf2.other q (by have := HSZ.out; omega), Below.heap_alloc _ _ _ (by have := HSZ.out; omega)]⟩
      have HF4 : Hid (∀ p, p < 300 → w7.cell? ⟨w5.heap.size, p, none⟩ = some (.bool (f p))) := fun p hp => cell_at hf2.here (hf4 p hp)
      have HC7 : Hid (0 < n → ∃ g o, lao = some ⟨g, o, none⟩ ∧ g < w5.heap.size ∧ ∀ j, j < n → w7.cell? ⟨g, o + j * 3, none⟩ = some (.int .i64 (at3 A j).h) ∧ w7.cell? ⟨g, o + j * 3 + 1, none⟩ = some (.int .i64 (at3 A j).p) ∧ w7.cell? ⟨g, o + j * 3 + 2, none⟩ = some (.bool (at3 A j).b)) := fun hpos =>
        cells7 (w7 := w7) HOL.out HN.out (fun g hg => by rw [hf2.other g (by omega), Below.heap_alloc _ _ _ hg]) hpos
      clear hf1 hf2 hf3 hf4 hf5 hsz7
      go_wp2
      go_loopw [19, 20] (fun v j wx => ∃ jj : Nat, jj ≤ n ∧ j = .int .i64 jj ∧ OwnR wx w7.heap.size 50 3 v ((A.take jj).filter (fun x => f x.p.toNat)).length (wcells ((A.take jj).filter (fun x => f x.p.toNat))) ∧ Below w7.heap.size w7 wx) (fun _ j _ => n - (intOf j).toNat)
      case atStart => exact ⟨0, Nat.zero_le _, rfl, OwnR.nil _ _ _ _, Below.refl _ _⟩
      case round =>
        obtain ⟨jj, hjj, rfl, hown, hbel⟩ := hrel
        by_cases hjn : jj < n
        · obtain ⟨g, o, rfl, hgl, hcl⟩ := HC7.out (by omega)
          obtain ⟨d1, d2, d3⟩ := hcl jj hjn
          have hg7 : g < w7.heap.size := by have := HSZ7.out; omega
          have hAj : jj < A.length := by rw [← HN.out]; exact hjn
          have hpb : 0 ≤ (at3 A jj).p ∧ (at3 A jj).p + k ≤ s0.size := HLP.out (at3 A jj) (by rw [at3_get A jj hAj]; exact List.getElem_mem _)
          obtain ⟨pn, hpn⟩ : ∃ pn : Nat, (at3 A jj).p = pn := ⟨(at3 A jj).p.toNat, by omega⟩
          have hpn3 : pn < 300 := by omega
          have hpnI : (pn : Int) < 300 := by omega
          have hjI : (jj : Int) < n := by omega
          have hinc : 0 < jj → (at3 A (jj - 1)).p < pn := fun h0 => by
            have := HA.out
            rw [← hpn, at3_get A jj hAj, at3_get A (jj - 1) (by omega)]
            have hi := allW_inc (nums s0.data.toList) k
            rw [← this] at hi
            exact List.pairwise_iff_getElem.1 hi (jj - 1) jj (by omega) hAj (by omega)
          have hfc : wr.cell? ⟨w5.heap.size, pn, none⟩ = some (.bool (f pn)) := (hbel.cell (by have := HSZ7.out; show w5.heap.size < _; omega)).trans (HF4.out pn hpn3)
          have e1 : wr.cell? ⟨g, o + jj * 3, none⟩ = some (.int .i64 (at3 A jj).h) := (hbel.cell hg7).trans d1
          have e2 : wr.cell? ⟨g, o + jj * 3 + 1, none⟩ = some (.int .i64 pn) := (hbel.cell hg7).trans (by rw [d2, hpn])
          have e3 : wr.cell? ⟨g, o + jj * 3 + 2, none⟩ = some (.bool (at3 A jj).b) := (hbel.cell hg7).trans d3
          have HTK : Hid ((A.take (jj + 1)).filter (fun x => f x.p.toNat) = (A.take jj).filter (fun x => f x.p.toNat) ++ (if f pn then [at3 A jj] else [])) := by
            show _ = _
            rw [List.take_succ_eq_append_getElem hAj, List.filter_append, ← at3_get A jj hAj, List.filter_cons, hpn]
            simp
          have hprev : 0 < jj → wr.cell? ⟨g, o + (jj - 1) * 3 + 1, none⟩ = some (.int .i64 (at3 A (jj - 1)).p) := fun h0 => (hbel.cell hg7).trans (hcl (jj - 1) (by omega)).2.1
          have hlenb : ((A.take jj).filter (fun x => f x.p.toNat)).length ≤ jj := Nat.le_trans (List.length_filter_le _ _) (List.length_take_le _ _)
          have HB : Hid (Below w7.heap.size w7 wr) := hbel
          have hszr := hbel.size
          have HXP : Hid ((at3 A jj).p = pn) := hpn
          clear hbel d1 d2 d3 hcl hpb hpn
          generalize hxx : at3 A jj = x at *
          generalize hLL : (A.take jj).filter (fun x => f x.p.toNat) = LL at *
          by_cases h0 : jj = 0
          · have hgd : decide ((0 : Int) < jj) = false := decide_eq_false (by omega)
            have hgd2 : decide (0 < jj) = false := decide_eq_false (by omega)
            clear hprev hinc h0
            cases hfp : f pn with
            | true =>
              have HTL : Hid ((A.take (jj + 1)).filter (fun x => f x.p.toNat) = LL ++ [x]) := by
                show _ = _
                have := HTK.out
                rw [hfp] at this
                simpa using this
              rw [hfp] at hfc
              clear HTK
              go_wp2
              go_quiet (fail)
              go_wp2_with (at_builtin; refine wpList_own _ rfl (.tmp 178) (.tmp 183) 40 rfl 50 i0 _ 3 24 Try.underlying40 hi hz0 hz1 hz2 rfl (by decide) w7.heap.size _ LL.length (wcells LL) rfl (by exact hown.other (fun g _ hlt => Below.heap_alloc _ _ _ hlt)) ⟨wr.heap.size, 0, none⟩ 1 [.int .i64 x.h, .int .i64 pn, .bool x.b] rfl rfl (by exact box_cells _ ⟨x.h, pn, x.b⟩ _ rfl) (word_oneCell ⟨x.h, pn, x.b⟩) (by unfold maxLen; omega) (by omega) (by simp; omega) ?_; intro g' o' cap' w8 hown' hfr)
              go_roundw
              case rel =>
                refine ⟨jj + 1, by omega, by go_num, ?_, HB.out.trans ?_⟩
                · rw [HTL.out, wcells_append, List.length_append]
                  have hx : (⟨x.h, pn, x.b⟩ : W3) = x := by rw [← HXP.out]
                  rw [← hx]
                  exact hown'
                · have hsz := hfr.size
                  simp at hsz
                  refine ⟨hfr.os, hfr.tape, hfr.output, by omega, fun q hq => ?_⟩
                  exact (hfr.other q (by simp; omega) (fun he => by have := (hown.lt he).1; omega)).trans (Below.heap_alloc _ _ _ (by show q < wr.heap.size; omega))
              case measure => simp [intOf]; omega
            | false =>
              have HTL : Hid ((A.take (jj + 1)).filter (fun x => f x.p.toNat) = LL) := by
                show _ = _
                have := HTK.out
                rw [hfp] at this
                simpa using this
              rw [hfp] at hfc
              clear HTK
              go_wp2
              go_quiet (fail)
              go_wp2
              go_roundw
              case rel => exact ⟨jj + 1, by omega, by go_num, by rw [HTL.out]; exact hown.other (fun _ _ _ => rfl), ⟨HB.out.os, HB.out.tape, HB.out.output, HB.out.size, HB.out.block⟩⟩
              case measure => simp [intOf]; omega
          · have h0' : 0 < jj := by omega
            have h0I : (0 : Int) < jj := by omega
            have hp1 := hprev h0'
            have hlt1 := hinc h0'
            have hkI : ((jj : Int) - 1).toNat = jj - 1 := by omega
            have hkI2 : 0 ≤ (jj : Int) - 1 := by omega
            have hkI3 : (jj : Int) - 1 < n := by omega
            clear hprev hinc
            generalize hpp : (at3 A (jj - 1)).p = pp at *
            have hnle : ¬ (pn : Int) ≤ pp := by omega
            cases hfp : f pn with
            | true =>
              have HTL : Hid ((A.take (jj + 1)).filter (fun x => f x.p.toNat) = LL ++ [x]) := by
                show _ = _
                have := HTK.out
                rw [hfp] at this
                simpa using this
              rw [hfp] at hfc
              clear HTK
              go_wp2
              go_quiet (fail)
              go_wp2_with (at_builtin; refine wpList_own _ rfl (.tmp 178) (.tmp 183) 40 rfl 50 i0 _ 3 24 Try.underlying40 hi hz0 hz1 hz2 rfl (by decide) w7.heap.size _ LL.length (wcells LL) rfl (by exact hown.other (fun g _ hlt => Below.heap_alloc _ _ _ hlt)) ⟨wr.heap.size, 0, none⟩ 1 [.int .i64 x.h, .int .i64 pn, .bool x.b] rfl rfl (by exact box_cells _ ⟨x.h, pn, x.b⟩ _ rfl) (word_oneCell ⟨x.h, pn, x.b⟩) (by unfold maxLen; omega) (by omega) (by simp; omega) ?_; intro g' o' cap' w8 hown' hfr)
              go_roundw
              case rel =>
                refine ⟨jj + 1, by omega, by go_num, ?_, HB.out.trans ?_⟩
                · rw [HTL.out, wcells_append, List.length_append]
                  have hx : (⟨x.h, pn, x.b⟩ : W3) = x := by rw [← HXP.out]
                  rw [← hx]
                  exact hown'
                · have hsz := hfr.size
                  simp at hsz
                  refine ⟨hfr.os, hfr.tape, hfr.output, by omega, fun q hq => ?_⟩
                  exact (hfr.other q (by simp; omega) (fun he => by have := (hown.lt he).1; omega)).trans (Below.heap_alloc _ _ _ (by show q < wr.heap.size; omega))
              case measure => simp [intOf]; omega
            | false =>
              have HTL : Hid ((A.take (jj + 1)).filter (fun x => f x.p.toNat) = LL) := by
                show _ = _
                have := HTK.out
                rw [hfp] at this
                simpa using this
              rw [hfp] at hfc
              clear HTK
              go_wp2
              go_quiet (fail)
              go_wp2
              go_roundw
              case rel => exact ⟨jj + 1, by omega, by go_num, by rw [HTL.out]; exact hown.other (fun _ _ _ => rfl), ⟨HB.out.os, HB.out.tape, HB.out.output, HB.out.size, HB.out.block⟩⟩
              case measure => simp [intOf]; omega
        · obtain rfl : jj = n := by omega
          have HO : Hid (OwnR wr w7.heap.size 50 3 u19 (A.filter (fun x => f x.p.toNat)).length (wcells (A.filter (fun x => f x.p.toNat)))) := by
            have e : A.take jj = A := List.take_of_length_le (by rw [← HN.out]; exact Nat.le_refl _)
            rw [e] at hown
            exact hown
          have HB : Hid (Below w7.heap.size w7 wr) := hbel
          have hlenf : (A.filter (fun x => f x.p.toNat)).length < 4398046511104 := by
            have := List.length_filter_le (fun x : W3 => f x.p.toNat) A
            have := HN.out
            omega
          have HLF : Hid ((A.filter (fun x => f x.p.toNat)).length < 4398046511104) := hlenf
          clear hbel hown hlenf
          go_wp2_with fail
          refine (sameWords_any (A.filter (fun x => f x.p.toNat)) w4.heap.size w7.heap.size mv u19 wr HLF.out (HOM7.out.other (fun g _ hlt => HB.out.block g hlt)) HO.out).mono ?_
          rintro e w9 ⟨rfl, mm, rfl⟩
          go_wp2
          go_ret
          refine ⟨rfl, ?_⟩
          have hb := HB7.out.trans (HB.out.mono HB7.out.size)
          exact ⟨hb.os, hb.tape, hb.output, hb.size, hb.block⟩
end Go.Proofs.Ytilcmkiihefkkaa
