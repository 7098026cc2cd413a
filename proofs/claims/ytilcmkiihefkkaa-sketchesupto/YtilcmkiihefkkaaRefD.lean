import Derived.Test.YtilcmkiihefkkaaRefC
set_option linter.unusedVariables false
set_option linter.unusedSimpArgs false
namespace Go.Proofs.Ytilcmkiihefkkaa
open Go.RowKit

set_option maxRecDepth 100000 in
set_option maxHeartbeats 1000000 in
theorem rwords_bad (s : ByteArray) (k W : Int) (w : World) (h : k < 1 ∨ 12 < k ∨ W < 1 ∨ 20 < W) :
    Calls Try.prog 16 #[.string s, .int .i64 k, .int .i64 W] w fun e w' => e = .returned (.tuple #[.slice none 0 0, .int .i64 6]) ∧ w' = w := by
  by_cases h1 : k < 1
  · go_enter Try.func16, Try.ntmps16
    go_wp2
    go_ret2
    exact ⟨rfl, rfl⟩
  · by_cases h2 : 12 < k
    · go_enter Try.func16, Try.ntmps16
      go_wp2
      go_ret2
      exact ⟨rfl, rfl⟩
    · by_cases h3 : W < 1
      · go_enter Try.func16, Try.ntmps16
        go_wp2
        go_ret2
        exact ⟨rfl, rfl⟩
      · have h4 : 20 < W := by omega
        go_enter Try.func16, Try.ntmps16
        go_wp2
        go_ret2
        exact ⟨rfl, rfl⟩

/-- the best one so far, as it lies in memory -/
def bestV (b : Option W3) : W3 := b.getD ⟨0, 0, false⟩

set_option maxRecDepth 100000 in
set_option maxHeartbeats 8000000 in
theorem rwords_any (s : ByteArray) (k W : Nat) (w : World) (hs : s.size ≤ 4398046510000) (hk1 : 1 ≤ k) (hk2 : k ≤ 12) (hW1 : 1 ≤ W) (hW2 : W ≤ 20) :
    Calls Try.prog 16 #[.string s, .int .i64 k, .int .i64 W] w fun e w' =>
      ((good s ∧ ∃ pv, e = .returned (.tuple #[pv, .int .i64 0]) ∧ OwnR w' w.heap.size 50 3 pv (pkRun k W (nums s.data.toList) (s.size + 1 - k)).M.length (wcells (pkRun k W (nums s.data.toList) (s.size + 1 - k)).M)) ∨ (¬ good s ∧ e = .returned (.tuple #[.slice none 0 0, .int .i64 2]))) ∧ Below w.heap.size w w' := by
  obtain ⟨i0, hi, hz0, hz1, hz2⟩ := info_parts Try.info50
  obtain ⟨i4, hi4, hy0, hy1, hy2⟩ := info_parts Try.info4
  obtain ⟨a, ha⟩ : ∃ a, a = nums s.data.toList := ⟨_, rfl⟩
  have hal : a.length = s.size := by rw [ha]; simp [nums]
  have HAL : Hid (a.length = s.size) := hal
  have HAA : Hid (a = nums s.data.toList) := ha
  rw [← ha]
  clear hal ha
  go_enter Try.func16, Try.ntmps16
  go_wp2_with fail
  refine (bases_any s w (by omega)).mono ?_
  rintro e w' ⟨h, rfl⟩
  rcases h with ⟨hg, rfl⟩ | ⟨hb, rfl⟩
  · have HG : Hid (good s) := hg
    clear hg
    go_wp2_with (at_make; refine wpList_make_full _ rfl _ _ 60 rfl w'.heap.size 4 i4 (.bool false) 1 Try.underlying60 hi4 hy0 hy1 .i64 .i64 s.size s.size s.size rfl rfl rfl rfl (by rw [hy2]; omega) (by unfold maxLen; omega) (by simp) ?_; intro w1 hown hgrow)
    obtain ⟨cs0, hst0, hcs0, hall0⟩ : ∃ cs, w1.heap[w'.heap.size]? = some (.cells cs 4 (0, 0)) ∧ cs.size = s.size ∧ ∀ p, p < s.size → cs[p]? = some (Value.bool false) := by
      rcases hown.2 with ⟨h, _⟩ | ⟨g, cap, cur, h, _, hg, _, _, hc, ht⟩
      · simp at h
      · simp only [Value.slice.injEq, Option.some.injEq, Addr.mk.injEq, and_true, true_and] at h
        obtain ⟨rfl, rfl⟩ := h
        refine ⟨cur, hg, by simpa using hc, fun p hp => ?_⟩
        have e1 : (madeCells (Value.bool false).cells (s.size * 1)).toList = List.replicate s.size (.bool false) := by
          rw [Nat.mul_one]
          exact toList_madeCells_one _ _
        rw [e1] at ht
        have : (cur.toList.take (s.size * 1))[p]? = some (.bool false) := by rw [ht, List.getElem?_replicate, if_pos hp]
        rw [List.getElem?_take, if_pos (by omega)] at this
        simpa using this
    have hb1 : Below w'.heap.size w' w1 := (Below.refl _ w').grown hgrow (Nat.le_refl _) (fun j hj => by cases hj)
    have hlt1 : w'.heap.size < w1.heap.size := lt_of_block hst0
    have HST0 : Hid (StJ a k W w'.heap.size 0 w1) := by
      refine ⟨cs0, fun _ => false, fun i hi => absurd hi (by omega), hst0, by rw [HAL.out]; exact hcs0, fun p hp => hall0 p (by rw [← HAL.out]; exact hp), fun p => ?_⟩
      constructor
      · intro h; simp at h
      · intro ⟨i, hi, _⟩; omega
    clear hown hgrow hst0 hcs0 hall0
    go_loopw [10] (fun i wr => ∃ m : Nat, i = .int .i64 m ∧ m ≤ s.size + 1 ∧ StJ a k W w'.heap.size m wr ∧ Below w'.heap.size w' wr) (fun i _ => s.size + 2 - (intOf i).toNat)
    case atStart => exact ⟨0, rfl, by omega, HST0.out, hb1⟩
    case round =>
      obtain ⟨m, rfl, hmn, hst, hbel⟩ := hrel
      have HST : Hid (StJ a k W w'.heap.size m wr) := hst
      have HB : Hid (Below w'.heap.size w' wr) := hbel
      have hltS : w'.heap.size < wr.heap.size := by
        obtain ⟨cs, f, _, h2, _⟩ := hst
        exact lt_of_block h2
      clear hst hbel hb1 hlt1
      obtain ⟨w7, hw7⟩ : ∃ w7, w7 = wr := ⟨_, rfl⟩
      subst hw7
      by_cases hin : m + k + W - 1 ≤ s.size
      · have hinI : (m : Int) + k + W - 1 ≤ s.size := by omega
        have HBE : Hid (w7.heap.size = w7.heap.size) := rfl
        go_wp2
        go_loopw [12, 13, 14] (fun fd wh j wx => ∃ q jj : Nat, q ≤ W ∧ j = .int .i64 jj ∧ jj = m + q ∧ wh = .bool (wholeW a k m q) ∧ fd = .bool (bestC a k m q).isSome ∧ wx.heap[w7.heap.size]? = some (.cells #[.int .i64 (bestV (bestC a k m q)).h, .int .i64 (bestV (bestC a k m q)).p, .bool (bestV (bestC a k m q)).b] 50 (0, 0)) ∧ wx.heap[w'.heap.size]? = w7.heap[w'.heap.size]? ∧ Below w'.heap.size w' wx) (fun _ _ j _ => m + W + 1 - (intOf j).toNat)
        case atStart => exact ⟨0, m, Nat.zero_le _, rfl, rfl, rfl, rfl, heap_alloc_new w7 _, Below.heap_alloc _ _ _ hltS, HB.out.alloc HB.out.size _⟩
        case round =>
          obtain ⟨q, jj, hq, rfl, hjj, rfl, rfl, hbc, hsc, hbw⟩ := hrel
          have HJJ : Hid (jj = m + q) := hjj
          have hjm : m ≤ jj := by omega
          have hjW : jj ≤ m + W := by omega
          have HBC : Hid (wr.heap[w7.heap.size]? = some (.cells #[.int .i64 (bestV (bestC a k m q)).h, .int .i64 (bestV (bestC a k m q)).p, .bool (bestV (bestC a k m q)).b] 50 (0, 0))) := hbc
          have HSC : Hid (wr.heap[w'.heap.size]? = w7.heap[w'.heap.size]?) := hsc
          have HBW : Hid (Below w'.heap.size w' wr) := hbw
          have hBlt : w7.heap.size < wr.heap.size := lt_of_block hbc
          have HW1 := wholeW_succ a k m q
          clear hjj hbc hsc hbw
          by_cases hqW : q < W
          · have hqI : (jj : Int) < (m : Int) + W := by have := HJJ.out; omega
            go_wp2_with fail
            refine (rword_any s jj k _ hs hk1 hk2 (by have := HJJ.out; omega) HG).mono ?_
            rintro e w8 ⟨h8, hb8⟩
            rw [← HAA.out, HJJ.out] at h8
            rcases h8 with ⟨hw8, rfl⟩ | ⟨hw8, hc8, rfl⟩ | ⟨x, hc8, rfl⟩
            · have HWS : Hid (wholeW a k m (q + 1) = false) := by show _ = _; rw [HW1, hw8]; simp
              have HBS : Hid (bestC a k m (q + 1) = bestC a k m q) := by
                show _ = _
                have : candW a k (m + q) = none := by unfold candW; rw [if_neg (by rw [hw8]; simp)]
                rw [bestC, this]

              have hbk := hb8.block w7.heap.size hBlt
              have hB8 : w8.heap[w7.heap.size]? = some (.cells #[.int .i64 (bestV (bestC a k m q)).h, .int .i64 (bestV (bestC a k m q)).p, .bool (bestV (bestC a k m q)).b] 50 (0, 0)) := hbk.trans HBC.out
              have hS8 : Hid (w8.heap[w'.heap.size]? = w7.heap[w'.heap.size]?) := (hb8.block w'.heap.size (by omega)).trans HSC.out
              have hb8' : Hid (Below w'.heap.size w' w8) := HBW.out.trans (hb8.mono (by omega))
              have hsz8 := hb8.size
              have hlt8 : w7.heap.size < w8.heap.size := by omega
              have HB8 : Hid (w8.heap[w7.heap.size]? = some (.cells #[.int .i64 (bestV (bestC a k m q)).h, .int .i64 (bestV (bestC a k m q)).p, .bool (bestV (bestC a k m q)).b] 50 (0, 0))) := hB8
              have HS8L : Hid (w'.heap.size < w8.heap.size) := by show _ < _; omega
              clear hbk hb8 hB8
              clear HW1 hw8
              generalize wholeW a k m q = b at *
              generalize hfd : (bestC a k m q).isSome = fd at *
              cases b
              all_goals go_wp2
              all_goals go_roundw
              case rel => exact ⟨q + 1, jj + 1, by omega, by go_num, by have := HJJ.out; omega, by rw [HWS.out], by rw [HBS.out, hfd], by rw [HBS.out]; exact (Below.heap_alloc _ _ _ hlt8).trans HB8.out, (Below.heap_alloc _ _ _ HS8L.out).trans hS8.out, hb8'.out.alloc hb8'.out.size _⟩
              case measure => simp [intOf]; omega
              case rel => exact ⟨q + 1, jj + 1, by omega, by go_num, by have := HJJ.out; omega, by rw [HWS.out], by rw [HBS.out, hfd], by rw [HBS.out]; exact (Below.heap_alloc _ _ _ hlt8).trans HB8.out, (Below.heap_alloc _ _ _ HS8L.out).trans hS8.out, hb8'.out.alloc hb8'.out.size _⟩
              case measure => simp [intOf]; omega
            · have HWS : Hid (wholeW a k m (q + 1) = wholeW a k m q) := by show _ = _; rw [HW1, hw8]; simp
              have HBS : Hid (bestC a k m (q + 1) = bestC a k m q) := by
                show _ = _
                rw [bestC, hc8]

              have hbk := hb8.block w7.heap.size hBlt
              have hB8 : w8.heap[w7.heap.size]? = some (.cells #[.int .i64 (bestV (bestC a k m q)).h, .int .i64 (bestV (bestC a k m q)).p, .bool (bestV (bestC a k m q)).b] 50 (0, 0)) := hbk.trans HBC.out
              have hS8 : Hid (w8.heap[w'.heap.size]? = w7.heap[w'.heap.size]?) := (hb8.block w'.heap.size (by omega)).trans HSC.out
              have hb8' : Hid (Below w'.heap.size w' w8) := HBW.out.trans (hb8.mono (by omega))
              have hsz8 := hb8.size
              have hlt8 : w7.heap.size < w8.heap.size := by omega
              have HB8 : Hid (w8.heap[w7.heap.size]? = some (.cells #[.int .i64 (bestV (bestC a k m q)).h, .int .i64 (bestV (bestC a k m q)).p, .bool (bestV (bestC a k m q)).b] 50 (0, 0))) := hB8
              have HS8L : Hid (w'.heap.size < w8.heap.size) := by show _ < _; omega
              clear hbk hb8 hB8
              clear HW1 hw8 hc8
              generalize hwb : wholeW a k m q = b at *
              have HWB : Hid (wholeW a k m q = b) := hwb
              clear hwb
              generalize hfd : (bestC a k m q).isSome = fd at *
              cases b
              all_goals go_wp2
              all_goals go_roundw
              case rel => exact ⟨q + 1, jj + 1, by omega, by go_num, by have := HJJ.out; omega, by rw [HWS.out], by rw [HBS.out, hfd], by rw [HBS.out]; exact (Below.heap_alloc _ _ _ hlt8).trans HB8.out, (Below.heap_alloc _ _ _ HS8L.out).trans hS8.out, hb8'.out.alloc hb8'.out.size _⟩
              case measure => simp [intOf]; omega
              case rel => exact ⟨q + 1, jj + 1, by omega, by go_num, by have := HJJ.out; omega, by rw [HWS.out], by rw [HBS.out, hfd], by rw [HBS.out]; exact (Below.heap_alloc _ _ _ hlt8).trans HB8.out, (Below.heap_alloc _ _ _ HS8L.out).trans hS8.out, hb8'.out.alloc hb8'.out.size _⟩
              case measure => simp [intOf]; omega
            · have hw8 := candW_isW hc8
              have HWS : Hid (wholeW a k m (q + 1) = wholeW a k m q) := by show _ = _; rw [HW1, hw8]; simp
              have HC8 : Hid (candW a k (m + q) = some x) := hc8

              have hbk := hb8.block w7.heap.size hBlt
              have hB8 : w8.heap[w7.heap.size]? = some (.cells #[.int .i64 (bestV (bestC a k m q)).h, .int .i64 (bestV (bestC a k m q)).p, .bool (bestV (bestC a k m q)).b] 50 (0, 0)) := hbk.trans HBC.out
              have hS8 : Hid (w8.heap[w'.heap.size]? = w7.heap[w'.heap.size]?) := (hb8.block w'.heap.size (by omega)).trans HSC.out
              have hb8' : Hid (Below w'.heap.size w' w8) := HBW.out.trans (hb8.mono (by omega))
              have hsz8 := hb8.size
              have hlt8 : w7.heap.size < w8.heap.size := by omega
              have HB8 : Hid (w8.heap[w7.heap.size]? = some (.cells #[.int .i64 (bestV (bestC a k m q)).h, .int .i64 (bestV (bestC a k m q)).p, .bool (bestV (bestC a k m q)).b] 50 (0, 0))) := hB8
              have HS8L : Hid (w'.heap.size < w8.heap.size) := by show _ < _; omega
              clear hbk hb8 hB8
              clear HW1 hw8 hc8
              have e0 : ∀ o, (w8.alloc o).cell? ⟨w7.heap.size, 0, none⟩ = some (.int .i64 (bestV (bestC a k m q)).h) := fun o => cell_at ((Below.heap_alloc _ _ _ hlt8).trans HB8.out) rfl
              have f0 : ∀ o, (w8.alloc o).frozen? ⟨w7.heap.size, 0, none⟩ = false := fun o => frozen_of_row _ _ _ _ _ ((Below.heap_alloc _ _ _ hlt8).trans HB8.out)
              have e1 : ∀ o v, ((w8.setCell ⟨w7.heap.size, 0, none⟩ v).alloc o).cell? ⟨w7.heap.size, 1, none⟩ = some (.int .i64 (bestV (bestC a k m q)).p) := fun o v => cell_at ((Below.heap_alloc _ _ _ (by simpa using hlt8)).trans (Upd.of_setCell (i := 0) v HB8.out).here) rfl
              have f1 : ∀ o v, ((w8.setCell ⟨w7.heap.size, 0, none⟩ v).alloc o).frozen? ⟨w7.heap.size, 1, none⟩ = false := fun o v => frozen_of_row _ _ _ _ _ ((Below.heap_alloc _ _ _ (by simpa using hlt8)).trans (Upd.of_setCell (i := 0) v HB8.out).here)
              have e2 : ∀ o v v', (((w8.setCell ⟨w7.heap.size, 0, none⟩ v).setCell ⟨w7.heap.size, 1, none⟩ v').alloc o).cell? ⟨w7.heap.size, 2, none⟩ = some (.bool (bestV (bestC a k m q)).b) := fun o v v' => cell_at ((Below.heap_alloc _ _ _ (by simpa using hlt8)).trans ((Upd.of_setCell (i := 0) v HB8.out).setCell (i := 1) v').here) rfl
              have f2 : ∀ o v v', (((w8.setCell ⟨w7.heap.size, 0, none⟩ v).setCell ⟨w7.heap.size, 1, none⟩ v').alloc o).frozen? ⟨w7.heap.size, 2, none⟩ = false := fun o v v' => frozen_of_row _ _ _ _ _ ((Below.heap_alloc _ _ _ (by simpa using hlt8)).trans ((Upd.of_setCell (i := 0) v HB8.out).setCell (i := 1) v').here)
              have HUP : Hid (Upd w8 (((w8.setCell ⟨w7.heap.size, 0, none⟩ (.int .i64 x.h)).setCell ⟨w7.heap.size, 1, none⟩ (.int .i64 x.p)).setCell ⟨w7.heap.size, 2, none⟩ (.bool x.b)) w7.heap.size (.cells #[.int .i64 x.h, .int .i64 x.p, .bool x.b] 50 (0, 0))) :=
                ((Upd.of_setCell _ HB8.out).setCell _).setCell _
              have HST8 : Hid (∀ W8, Upd w8 W8 w7.heap.size (.cells #[.int .i64 x.h, .int .i64 x.p, .bool x.b] 50 (0, 0)) → ∀ o, (W8.alloc o).heap[w7.heap.size]? = some (.cells #[.int .i64 x.h, .int .i64 x.p, .bool x.b] 50 (0, 0)) ∧ (W8.alloc o).heap[w'.heap.size]? = w7.heap[w'.heap.size]? ∧ Below w'.heap.size w' (W8.alloc o)) := fun W8 hu o => by
                have hne : w'.heap.size ≠ w7.heap.size := by omega
                have hs8 := HS8L.out
                have h1 := hu.size
                have hb9 := hb8'.out.trans (hu.below (B := w'.heap.size) (by omega))
                exact ⟨(Below.heap_alloc _ _ _ (by omega)).trans hu.here, (Below.heap_alloc _ _ _ (by omega)).trans ((hu.other _ hne).trans hS8.out), hb9.alloc hb9.size _⟩
              generalize hwb : wholeW a k m q = b at *
              have HWB : Hid (wholeW a k m q = b) := hwb
              clear hwb
              cases hbq : bestC a k m q with
              | none =>
                have HBS : Hid (bestC a k m (q + 1) = some x) := by
                  show _ = _
                  rw [bestC, HC8.out, hbq]
                rw [hbq] at e0 e1 e2
                have hfd : (none : Option W3).isSome = false := rfl
                clear hbq
                cases b
                all_goals go_wp2
                all_goals go_roundw
                case rel => exact ⟨q + 1, jj + 1, by omega, by go_num, by have := HJJ.out; omega, by rw [HWS.out], by rw [HBS.out]; rfl, by rw [HBS.out]; exact (HST8.out _ HUP.out _).1, (HST8.out _ HUP.out _).2.1, (HST8.out _ HUP.out _).2.2⟩
                case measure => simp [intOf]; omega
                case rel => exact ⟨q + 1, jj + 1, by omega, by go_num, by have := HJJ.out; omega, by rw [HWS.out], by rw [HBS.out]; rfl, by rw [HBS.out]; exact (HST8.out _ HUP.out _).1, (HST8.out _ HUP.out _).2.1, (HST8.out _ HUP.out _).2.2⟩
                case measure => simp [intOf]; omega
              | some bb =>
                rw [hbq] at e0 e1 e2
                have hbv : bestV (some bb) = bb := rfl
                rw [hbv] at e0 e1 e2
                rw [hbq, hbv] at HB8
                have hfd : (some bb : Option W3).isSome = true := rfl
                by_cases hlt : x.h < bb.h
                · have HBS : Hid (bestC a k m (q + 1) = some x) := by
                    show _ = _
                    rw [bestC, HC8.out, hbq]
                    simp [hlt]
                  clear hbq
                  cases b
                  all_goals go_wp2
                  all_goals go_roundw
                  case rel => exact ⟨q + 1, jj + 1, by omega, by go_num, by have := HJJ.out; omega, by rw [HWS.out], by rw [HBS.out]; rfl, by rw [HBS.out]; exact (HST8.out _ HUP.out _).1, (HST8.out _ HUP.out _).2.1, (HST8.out _ HUP.out _).2.2⟩
                  case measure => simp [intOf]; omega
                  case rel => exact ⟨q + 1, jj + 1, by omega, by go_num, by have := HJJ.out; omega, by rw [HWS.out], by rw [HBS.out]; rfl, by rw [HBS.out]; exact (HST8.out _ HUP.out _).1, (HST8.out _ HUP.out _).2.1, (HST8.out _ HUP.out _).2.2⟩
                  case measure => simp [intOf]; omega
                · have HBS : Hid (bestC a k m (q + 1) = some bb) := by
                    show _ = _
                    rw [bestC, HC8.out, hbq]
                    simp [hlt]
                  clear hbq
                  cases b
                  all_goals go_wp2
                  all_goals go_roundw
                  case rel => exact ⟨q + 1, jj + 1, by omega, by go_num, by have := HJJ.out; omega, by rw [HWS.out], by rw [HBS.out]; rfl, by rw [HBS.out]; exact (Below.heap_alloc _ _ _ hlt8).trans HB8.out, (Below.heap_alloc _ _ _ HS8L.out).trans hS8.out, hb8'.out.alloc hb8'.out.size _⟩
                  case measure => simp [intOf]; omega
                  case rel => exact ⟨q + 1, jj + 1, by omega, by go_num, by have := HJJ.out; omega, by rw [HWS.out], by rw [HBS.out]; rfl, by rw [HBS.out]; exact (Below.heap_alloc _ _ _ hlt8).trans HB8.out, (Below.heap_alloc _ _ _ HS8L.out).trans hS8.out, hb8'.out.alloc hb8'.out.size _⟩
                  case measure => simp [intOf]; omega
          · obtain rfl : q = W := by omega
            have HWW : Hid (wholeW a k m q = true ↔ IsWin a k q (m + q - 1)) := wholeW_win a k m q hW1
            have hqI : ¬ (jj : Int) < (m : Int) + q := by have := HJJ.out; omega
            have HK9 : Hid (StJ a k q w'.heap.size m wr) := HST.out.keep HSC.out
            clear HW1
            generalize wholeW a k m q = b at *
            cases b with
            | false =>
              have HNO : Hid (∀ x, ¬ Stands a k q (m + q - 1) x) := fun x hx => by
                have := HWW.out.2 hx.1
                simp at this
              generalize (bestC a k m q).isSome = fd at *
              go_wp2
              go_roundw
              case rel => exact ⟨m + 1, by go_num, by omega, HK9.out.stepN (by rw [HAL.out]; exact hin) HNO.out, HBW.out⟩
              case measure => simp [intOf]; omega
            | true =>
              have hiw := HWW.out.1 rfl
              have hbs := bestC_stands a k q m hW1 hiw
              cases hbq : bestC a k m q with
              | none =>
                have HNO : Hid (∀ x, ¬ Stands a k q (m + q - 1) x) := hbs.1 hbq
                have hfd : (none : Option W3).isSome = false := rfl
                clear hbq hbs hiw HBC
                go_wp2
                go_roundw
                case rel => exact ⟨m + 1, by go_num, by omega, HK9.out.stepN (by rw [HAL.out]; exact hin) HNO.out, HBW.out⟩
                case measure => simp [intOf]; omega
              | some x =>
                have hst := hbs.2 x hbq
                have hfd : (some x : Option W3).isSome = true := rfl
                have hbv : bestV (some x) = x := rfl
                rw [hbq, hbv] at HBC
                have hxp : ∃ pn : Nat, x.p = pn ∧ pn < s.size := by
                  obtain ⟨_, i, h1, h2, h3, _⟩ := hst
                  have := candW_p h3
                  have hl := ((isW_get a k i).1 (candW_isW h3)).1
                  rw [HAL.out] at hl
                  exact ⟨i, this, by omega⟩
                obtain ⟨pn, hpn, hpns⟩ := hxp
                have HX : Hid (Stands a k q (m + q - 1) x ∧ x.p = pn) := ⟨hst, hpn⟩
                have hpI : (pn : Int) < s.size := by omega
                have c1 : wr.cell? ⟨w7.heap.size, 1, none⟩ = some (.int .i64 pn) := by rw [← hpn]; exact cell_at HBC.out rfl
                obtain ⟨fv, hfc, hff⟩ : ∃ fv, wr.cell? ⟨w'.heap.size, pn, none⟩ = some fv ∧ wr.frozen? ⟨w'.heap.size, pn, none⟩ = false := by
                  obtain ⟨cs, f, _, h2, _, h4, _⟩ := HK9.out
                  exact ⟨_, cell_at h2 (h4 pn (by rw [HAL.out]; exact hpns)), frozen_of_row _ _ _ _ _ h2⟩
                clear hbq hbs hiw HBC hst hpn
                go_wp2
                go_roundw
                case rel => exact ⟨m + 1, by go_num, by omega, HK9.out.stepS (by rw [HAL.out]; exact hin) HX.out.1 HX.out.2 (by rw [HAL.out]; exact hpns), HBW.out.setCell (Nat.le_refl _) _⟩
                case measure => simp [intOf]; omega
      · have hinI : ¬ (m : Int) + k + W - 1 ≤ s.size := by omega
        obtain ⟨cs, f, hf1, hf2, hf3, hf4, hf5⟩ := HST.out
        have HML : Hid ((pkRun k W a (s.size + 1 - k)).M = listF a k f s.size) := by
          show _ = _
          have := words_listF a k W hk1 hW1 f m (by rw [HAL.out]; omega) hf1 hf5
          rwa [HAL.out] at this
        have HF5 : Hid (∀ p, f p = true → ∃ x, candW a k p = some x ∧ p + k ≤ s.size) := fun p hp => by
          obtain ⟨i, hi, x, ⟨_, j, _, _, h3, _⟩, hxp⟩ := (hf5 p).1 hp
          have := candW_p h3
          have hjp : j = p := by omega
          subst hjp
          have hl := ((isW_get a k j).1 (candW_isW h3)).1
          rw [HAL.out] at hl
          exact ⟨x, h3, hl⟩
        have HS7 : Hid (w7.heap[w'.heap.size]? = some (.cells cs 4 (0, 0))) := hf2
        have HF4 : Hid (∀ p, p < s.size → cs[p]? = some (.bool (f p))) := fun p hp => hf4 p (by rw [HAL.out]; exact hp)
        clear hf1 hf2 hf3 hf4 hf5
        go_wp2
        go_loopw [17, 18] (fun v j wx => ∃ jj : Nat, jj ≤ s.size ∧ j = .int .i64 jj ∧ OwnR wx w'.heap.size 50 3 v (listF a k f jj).length (wcells (listF a k f jj)) ∧ wx.heap[w'.heap.size]? = some (.cells cs 4 (0, 0)) ∧ Below w'.heap.size w' wx) (fun _ j _ => s.size - (intOf j).toNat)
        case atStart => exact ⟨0, Nat.zero_le _, rfl, OwnR.nil _ _ _ _, HS7.out, HB.out⟩
        case round =>
          obtain ⟨jj, hjj, rfl, hown, hsx, hbx⟩ := hrel
          have HSX : Hid (wr.heap[w'.heap.size]? = some (.cells cs 4 (0, 0))) := hsx
          have HBX : Hid (Below w'.heap.size w' wr) := hbx
          have hltx : w'.heap.size < wr.heap.size := lt_of_block hsx
          clear hsx hbx
          have hll := listF_length a k f jj
          by_cases hjn : jj < s.size
          · have hjI : (jj : Int) < s.size := by omega
            have hfc : wr.cell? ⟨w'.heap.size, jj, none⟩ = some (.bool (f jj)) := cell_at HSX.out (HF4.out jj hjn)
            have HSU := listF_succ a k f jj
            cases hfj : f jj with
            | false =>
              rw [hfj] at hfc HSU
              have HSU' : Hid (listF a k f (jj + 1) = listF a k f jj) := by show _ = _; simpa using HSU
              clear HSU
              go_wp2
              go_roundw
              case rel => exact ⟨jj + 1, by omega, by go_num, by rw [HSU'.out]; exact hown, HSX.out, HBX.out⟩
              case measure => simp [intOf]; omega
            | true =>
              obtain ⟨x, hx, hpk⟩ := HF5.out jj hfj
              rw [hfj] at hfc HSU
              have HSU' : Hid (listF a k f (jj + 1) = listF a k f jj ++ [x]) := by show _ = _; rw [HSU, hx]; rfl
              have HX : Hid (candW a k jj = some x) := hx
              clear HSU hx
              go_wp2_with fail
              refine (rword_any s jj k _ hs hk1 hk2 hpk HG).mono ?_
              rintro e w8 ⟨h8, hb8⟩
              rw [← HAA.out] at h8
              obtain rfl : e = .returned (.tuple #[.agg #[.int .i64 x.h, .int .i64 x.p, .bool x.b], .int .i64 2]) := by
                rcases h8 with ⟨h, _⟩ | ⟨_, h, _⟩ | ⟨y, hy, h⟩
                · have := candW_isW HX.out; rw [h] at this; simp at this
                · rw [HX.out] at h; simp at h
                · rw [HX.out] at hy; cases hy; exact h
              clear h8
              have hown8 : OwnR w8 w'.heap.size 50 3 u17 (listF a k f jj).length (wcells (listF a k f jj)) := hown.other (fun g _ hlt => hb8.block g hlt)
              have HS8 : Hid (w8.heap[w'.heap.size]? = some (.cells cs 4 (0, 0))) := (hb8.block _ hltx).trans HSX.out
              have HB8 : Hid (Below w'.heap.size w' w8) := HBX.out.trans (hb8.mono (by omega))
              have hsz8 := hb8.size
              clear hb8 hown
              generalize hLL : listF a k f jj = LL at *
              go_wp2_with (at_builtin; refine wpList_own _ rfl (.tmp 113) (.tmp 115) 40 rfl 50 i0 _ 3 24 Try.underlying40 hi hz0 hz1 hz2 rfl (by decide) w'.heap.size _ LL.length (wcells LL) rfl (by exact hown8.other (fun g _ hlt => by rw [Below.heap_alloc _ _ _ (by simp; omega), Below.heap_alloc _ _ _ hlt])) ⟨w8.heap.size + 1, 0, none⟩ 1 [.int .i64 x.h, .int .i64 x.p, .bool x.b] rfl rfl (by exact box_cells _ x _ (by simp)) (word_oneCell x) (by unfold maxLen; omega) (by omega) (by simp; omega) ?_; intro g' o' cap' w9 hown' hfr)
              go_roundw
              case rel =>
                have hs8 := lt_of_block HS8.out
                have hW8 : ∀ q, q < w8.heap.size → w9.heap[q]? = ((w8.alloc (.cells #[.int .i64 x.h, .int .i64 x.p, .bool x.b] 50)).alloc (.cells #[.int .i64 x.h, .int .i64 x.p, .bool x.b] 50)).heap[q]? → w9.heap[q]? = w8.heap[q]? := fun q hq h => by
                  rw [h, Below.heap_alloc _ _ _ (by simp; omega), Below.heap_alloc _ _ _ hq]
                have hne : u17.ownBlock ≠ some w'.heap.size := hown8.tag (by decide) HS8.out
                have hsz := hfr.size
                simp at hsz
                refine ⟨jj + 1, by omega, by go_num, ?_, ?_, HB8.out.trans ?_⟩
                · rw [HSU'.out, wcells_append, List.length_append]
                  exact hown'
                · exact (hW8 _ hs8 (hfr.other _ (by simp; omega) hne)).trans HS8.out
                · refine ⟨hfr.os, hfr.tape, hfr.output, by omega, fun q hq => ?_⟩
                  exact hW8 q (by omega) (hfr.other q (by simp; omega) (fun he => by have := (hown8.lt he).1; omega))
              case measure => simp [intOf]; omega
          · obtain rfl : jj = s.size := by omega
            have HO : Hid (OwnR wr w'.heap.size 50 3 u17 (pkRun k W a (s.size + 1 - k)).M.length (wcells (pkRun k W a (s.size + 1 - k)).M)) := by
              show OwnR _ _ _ _ _ _ _
              rw [HML.out]; exact hown
            clear hown
            go_wp2
            go_ret2
            exact ⟨Or.inl ⟨HG.out, _, rfl, HO.out⟩, HBX.out⟩
  · have HB : Hid (¬ good s) := hb
    clear hb
    go_wp2
    go_ret2
    exact ⟨Or.inr ⟨HB.out, rfl⟩, Below.refl _ _⟩
end Go.Proofs.Ytilcmkiihefkkaa
