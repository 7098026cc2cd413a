import Derived.Test.YtilcmkiihefkkaaBkAB
set_option linter.unusedVariables false
set_option linter.unusedSimpArgs false
namespace Go.Proofs.Ytilcmkiihefkkaa
open Go.RowKit

theorem box2_cells (W : World) (x y : Value) (t : TypeId) (s : Nat) (hs : s = W.heap.size) : ∀ j u, ([x, y] : List Value)[j]? = some u → (W.alloc (.cells #[x, y] t)).cell? ((⟨s, 0, none⟩ : Addr).add j) = some u := by
  intro j u hj
  subst hs
  rw [Addr.add_lit, Nat.zero_add]
  refine cell_at (heap_alloc_new W _) ?_
  simpa using hj

theorem entry_oneCell (ao : Option Addr) (n c : Nat) (k : Int) : ∀ u ∈ ([.slice ao n c, .int .i64 k] : List Value), u.oneCell' = true := by
  intro u hu
  simp at hu
  rcases hu with rfl | rfl <;> rfl

theorem BkA.bookAt {w0 w1 w2 : World} {base Bb k n c g' o' : Nat} {v0 wv0 lv wv : Value} {E : List (Value × Int)} {vs : List Value} {ob : Obj} {w : World} (h : BkA w0 base Bb k n v0 wv0 E vs c lv wv w)
    (hw1 : w1.heap = (w.alloc ob).heap) (hf : AppFr2 w1 w2 wv (E.length + vs.length) 2 g' o') :
    w2.heap[Bb]? = some (Obj.cells #[.slice none 0 0, .slice none 0 0, wv, .slice none 0 0, .slice none 0 0] 34 (0, 0)) := by
  have hlt := lt_of_block h.book
  have hs1 : w1.heap.size = w.heap.size + 1 := by rw [hw1]; simp
  rw [hf.fr.other Bb (by omega) (h.ent.tag (by decide) h.book), hw1, Below.heap_alloc _ _ _ hlt]
  exact h.book

set_option maxRecDepth 100000 in
set_option maxHeartbeats 8000000 in
theorem ownA_any (Bb k n : Nat) (L : List (Int × Int)) (hn : L.length = n) (E : List (Value × Int)) (hE : E.length = k) (base : Nat) (v0 wv0 : Value) (w : World) (hL : n < 4398046511000) (hk : k ≤ 100) (hbase : base ≤ w.heap.size)
    (hB : w.heap[Bb]? = some (.cells #[.slice none 0 0, .slice none 0 0, wv0, .slice none 0 0, .slice none 0 0] 34 (0, 0)))
    (hwv : OwnR w base 84 2 wv0 k (ecells E))
    (hown : OwnR w base 62 2 v0 n (acells L)) :
    Calls Try.prog 27 #[.pointer (some ⟨Bb, 0, none⟩), v0] w fun e w' => e = .returned (.tuple #[]) ∧ ∃ vs lv wv, vs.length = 4 ∧ BkA w base Bb k n v0 wv0 E vs 3 lv wv w' := by
  obtain ⟨i0, hi, hz0, hz1, hz2⟩ := info_parts Try.info62
  obtain ⟨i8, hi8, hy0, hy1, hy2⟩ := info_parts Try.info84
  obtain ⟨wao, wc, hwvs⟩ := hwv.shape
  obtain ⟨lao, lc, hlvs⟩ := hown.shape
  have c1 : w.cell? ⟨Bb, 2, none⟩ = some wv0 := cell_at hB rfl
  have hltB := lt_of_block hB
  have HL : Hid (L.length = n) := hn
  have HE : Hid (E.length = k) := hE
  have HB : Hid (w.heap[Bb]? = some (.cells #[.slice none 0 0, .slice none 0 0, wv0, .slice none 0 0, .slice none 0 0] 34 (0, 0))) := hB
  have HWV : Hid (OwnR w base 84 2 wv0 k (ecells E)) := hwv
  have HOW : Hid (OwnR w base 62 2 v0 n (acells L)) := hown
  have hvB : v0.ownBlock ≠ some Bb := hown.tag (by decide) hB
  have HVB : Hid (v0.ownBlock ≠ some Bb) := hvB
  clear hn hE hB hwv hown hvB
  subst hwvs hlvs
  go_enter Try.func27, Try.ntmps27
  go_wp2
  go_loopw [6] (fun i wx => ∃ j : Nat, j ≤ n ∧ i = .int .i64 j ∧ OwnR wx base 62 2 (.slice lao n lc) n (acells (marka j k ++ L.drop j)) ∧ Fr1 (w.alloc (.cells #[.int .i64 (-1 - (k : Int)), .int .i64 0] 62)) wx (.slice lao n lc)) (fun i _ => n - (intOf i).toNat)
  case atStart => exact ⟨0, Nat.zero_le _, rfl, HOW.out.other (fun g _ hlt => Below.heap_alloc _ _ _ hlt), ⟨rfl, rfl, rfl, rfl, fun _ _ _ => rfl⟩⟩
  case round =>
    obtain ⟨j, hj, rfl, hownj, hfr⟩ := hrel
    have HFR : Hid (Fr1 (w.alloc (.cells #[.int .i64 (-1 - (k : Int)), .int .i64 0] 62)) wr (.slice lao n lc)) := hfr
    have hszr : wr.heap.size = w.heap.size + 1 := by rw [hfr.size]; simp
    have HSZ : Hid (wr.heap.size = w.heap.size + 1) := hszr
    have hnM : (Value.slice lao n lc).ownBlock ≠ some w.heap.size := fun he => by have := (HOW.out.lt he).2; omega
    have HNM : Hid ((Value.slice lao n lc).ownBlock ≠ some w.heap.size) := hnM
    have hmk : wr.heap[w.heap.size]? = some (.cells #[.int .i64 (-1 - (k : Int)), .int .i64 0] 62 (0, 0)) := by
      rw [hfr.other _ (by simp) hnM]; exact heap_alloc_new w _
    have HMK : Hid (wr.heap[w.heap.size]? = some (.cells #[.int .i64 (-1 - (k : Int)), .int .i64 0] 62 (0, 0))) := hmk
    have m0 : wr.cell? ⟨w.heap.size, 0, none⟩ = some (.int .i64 (-1 - (k : Int))) := cell_at hmk rfl
    have m1 : wr.cell? ⟨w.heap.size, 1, none⟩ = some (.int .i64 0) := cell_at hmk rfl
    clear hfr hszr hnM hmk
    by_cases hjn : j < n
    · obtain ⟨g, o, hlao, hg⟩ : ∃ g o, lao = some ⟨g, o, none⟩ ∧ ∃ cur, wr.heap[g]? = some (.cells cur 62 (0, 0)) ∧ o + n * 2 ≤ cur.size := by
        rcases hownj.2 with ⟨_, h⟩ | ⟨g, o, cap, cur, h, _, h2, h3, _, h5, _⟩
        · omega
        · simp only [Value.slice.injEq] at h
          exact ⟨g, o, h.1, cur, h2, Nat.le_trans (Nat.add_le_add_left (Nat.mul_le_mul_right 2 h3) o) h5⟩
      subst hlao
      obtain ⟨cur, hgc, hgs⟩ := hg
      have hjI : (j : Int) < n := by omega
      have hgM : ¬ g = w.heap.size := fun he => HNM.out (by simp [Value.ownBlock, he])
      have hgM' : ¬ w.heap.size = g := fun he => hgM he.symm
      obtain ⟨y0, hy0'⟩ : ∃ y, wr.cell? ⟨g, o + j * 2, none⟩ = some y := ⟨_, cell_at hgc (Array.getElem?_eq_getElem (by omega))⟩
      obtain ⟨y1, hy1'⟩ : ∃ y, wr.cell? ⟨g, o + j * 2 + 1, none⟩ = some y := ⟨_, cell_at hgc (Array.getElem?_eq_getElem (by omega))⟩
      have f0 : wr.frozen? ⟨g, o + j * 2, none⟩ = false := frozen_of_row _ _ _ _ _ hgc
      have f1 : wr.frozen? ⟨g, o + j * 2 + 1, none⟩ = false := frozen_of_row _ _ _ _ _ hgc
      have HSET := hownj.setA (by simp [marka]; have := HL.out; omega) j hjn (-1 - (k : Int), 0)
      rw [marka_set L k j (by rw [HL.out]; exact hjn)] at HSET
      have HSET' : Hid _ := HSET
      clear hgc hgs HSET hownj
      go_wp2
      go_roundw
      case rel =>
        refine ⟨j + 1, by omega, by go_num, HSET'.out, ⟨HFR.out.os, HFR.out.tape, HFR.out.output, by simpa using HFR.out.size, fun q hq hne => ?_⟩⟩
        have hqg : q ≠ g := fun he => hne (by simp [Value.ownBlock, he])
        rw [heap_setCell_other _ _ _ _ hqg, heap_setCell_other _ _ _ _ hqg]
        exact HFR.out.other q hq hne
      case measure => simp [intOf]; omega
    · obtain rfl : j = n := by omega
      have hBk : BkA w base Bb k j (.slice lao j lc) (.slice wao k wc) E [] 0 (.slice lao j lc) (.slice wao k wc) wr := by
        have hd : L.drop j = [] := List.drop_eq_nil_of_le (by rw [HL.out]; exact Nat.le_refl _)
        rw [hd, List.append_nil] at hownj
        have hoth : ∀ q, q < w.heap.size → (Value.slice lao j lc).ownBlock ≠ some q → wr.heap[q]? = w.heap[q]? := fun q hq hne => by
          rw [HFR.out.other q (by simp; omega) hne, Below.heap_alloc _ _ _ hq]
        refine ⟨(hoth Bb hltB HVB.out).trans HB.out, ?_, hownj, by simp, HMK.out, ?_, fun g hg => Or.inl hg, HFR.out.os, HFR.out.tape, HFR.out.output, by have := HSZ.out; omega, fun q hq _ _ h3 => hoth q hq h3⟩
        · have : OwnR wr base 84 2 (.slice wao k wc) k (ecells E) := HWV.out.other (fun g hg hlt => hoth g hlt (fun he => by
            obtain ⟨_, hh⟩ := HWV.out
            rcases hh with ⟨h, _⟩ | ⟨g2, o2, cap2, cur2, h, _, h2, _⟩
            · rw [h] at hg; simp [Value.ownBlock] at hg
            · rw [h] at hg
              simp only [Value.ownBlock, Option.some.injEq] at hg
              subst hg
              exact HOW.out.tag (by decide) h2 he))
          simpa [HE.out] using this
        · intro v hv
          rcases hv with rfl | hv
          · exact ⟨HNM.out, fun g hg => Or.inl hg⟩
          · simp at hv
      have q1 : wr.cell? ⟨Bb, 2, none⟩ = some (.slice wao k wc) := cell_at hBk.book rfl
      have HBK : Hid (BkA w base Bb k j (.slice lao j lc) (.slice wao k wc) E [] 0 (.slice lao j lc) (.slice wao k wc) wr) := hBk
      have hentE : OwnR wr base 84 2 (.slice wao k wc) k (ecells E) := by have := hBk.ent; simpa [HE.out] using this
      clear hBk hownj
      go_wp2_with (at_builtin; go_must (refine wpList_own2 _ rfl (.tmp 30) (.tmp 34) 30 rfl 84 i8 _ 2 32 Try.underlying30 hi8 hy0 hy1 hy2 rfl (by decide) base (.slice wao k wc) k (ecells E) rfl (by exact hentE.other (fun g _ hlt => Below.heap_alloc _ _ _ hlt)) ⟨wr.heap.size, 0, none⟩ 1 [.slice lao j lc, .int .i64 k] rfl rfl (by exact box2_cells _ _ _ _ _ rfl) (entry_oneCell _ _ _ _) (by unfold maxLen; omega) (by omega) (by simp; have := HSZ.out; omega) ?_; intro g' o' cap' w2 hown2 hf2; have hB2 := HBK.out.bookAt (w1 := wr.alloc (.cells #[.slice lao j lc, .int .i64 k] 84)) rfl (by simpa [HE.out] using hf2); have r1 := cell_at hB2 (i := 2) rfl; have r2 : w2.frozen? ⟨Bb, 2, none⟩ = false := frozen_of_row _ _ _ _ _ hB2; clear hB2))
      have hN2 : BkA w base Bb k j (.slice lao j lc) (.slice wao k wc) E [.slice lao j lc] 0 (.slice lao j lc) (.slice (some ⟨g', o', none⟩) (k + 1) cap') (w2.setCell ⟨Bb, 2, none⟩ (.slice (some ⟨g', o', none⟩) (k + 1) cap')) := by
        have := HBK.out.note (w1 := wr.alloc (.cells #[.slice lao j lc, .int .i64 k] 84)) (w2 := w2) (g' := g') (o' := o') (cap' := cap') (ob := .cells #[.slice lao j lc, .int .i64 k] 84) hbase hltB rfl rfl rfl rfl (by simpa [HE.out] using hown2) (by simpa [HE.out] using hf2)
        simpa [HE.out] using this
      generalize w2.setCell ⟨Bb, 2, none⟩ (.slice (some ⟨g', o', none⟩) (k + 1) cap') = w3 at hN2 ⊢
      have HN2 : Hid (BkA w base Bb k j (.slice lao j lc) (.slice wao k wc) E [.slice lao j lc] 0 (.slice lao j lc) (.slice (some ⟨g', o', none⟩) (k + 1) cap') w3) := hN2
      clear hN2 r1 r2 hf2 hown2 m0 m1 q1 hentE c1
      go_loopw [1, 7] (fun l i wx => ∃ (t : Nat) (vs : List Value) (ao : Option Addr) (c : Nat) (wv : Value), t ≤ 3 ∧ i = .int .i64 t ∧ l = .slice ao (j + t) c ∧ vs.length = t + 1 ∧ BkA w base Bb k j (.slice lao j lc) (.slice wao k wc) E vs t (.slice ao (j + t) c) wv wx) (fun _ i _ => 3 - (intOf i).toNat)
      case atStart => exact ⟨0, _, lao, lc, _, by omega, rfl, rfl, rfl, HN2.out⟩
      case round =>
        obtain ⟨t, vs, ao, c, wv, ht, rfl, rfl, hvl, hbk⟩ := hrel
        have HVL : Hid (vs.length = t + 1) := hvl
        have HBT : Hid (BkA w base Bb k j (.slice lao j lc) (.slice wao k wc) E vs t (.slice ao (j + t) c) wv wr) := hbk
        by_cases ht3 : t < 3
        · have m0 : wr.cell? ⟨w.heap.size, 0, none⟩ = some (.int .i64 (-1 - (k : Int))) := cell_at hbk.mark rfl
          have m1 : wr.cell? ⟨w.heap.size, 1, none⟩ = some (.int .i64 0) := cell_at hbk.mark rfl
          have hcur := hbk.cur
          have hszr := hbk.size
          obtain ⟨wa, wcc, hwvs⟩ := hbk.ent.shape
          obtain ⟨N, hN⟩ : ∃ N, N = E.length + vs.length := ⟨_, rfl⟩
          have hNb : N ≤ 104 := by rw [hN, HE.out, hvl]; omega
          rw [← hN] at hwvs
          subst hwvs
          have HN : Hid (N = E.length + vs.length) := hN
          clear hvl hbk hN
          go_wp2_with (first | (at_builtin; refine wpList_own2 _ rfl (.tmp 42) (.tmp 44) 52 rfl 62 i0 _ 2 16 Try.underlying52 hi hz0 hz1 hz2 rfl (by decide) base (.slice ao (j + t) c) (j + t) (acells (marka (j + t) k)) rfl (by exact hcur.other (fun g _ hlt => Below.heap_alloc _ _ _ hlt)) ⟨wr.heap.size, 0, none⟩ 1 [.int .i64 (-1 - (k : Int)), .int .i64 0] rfl rfl (by exact abox_cells _ _ _ _ _ rfl) (an_oneCell _ _) (by unfold maxLen; omega) (by omega) (by simp; omega) ?_; intro g1 o1 cap1 w4 hown4 hf4; have hB4 := HBT.out.grow (w1 := wr.alloc (.cells #[.int .i64 (-1 - (k : Int)), .int .i64 0] 62)) (ob := .cells #[.int .i64 (-1 - (k : Int)), .int .i64 0] 62) hbase hltB rfl rfl rfl rfl hown4 hf4; have q1 : w4.cell? ⟨Bb, 2, none⟩ = some (.slice wa N wcc) := cell_at hB4.book rfl; have hsz4 := hB4.size; have hent4 : OwnR w4 base 84 2 (.slice wa N wcc) N (ecells (E ++ vs.map fun v => (v, (k : Int)))) := (by have := hB4.ent; rw [← HN.out] at this; exact this); have HB4 : Hid (BkA w base Bb k j (.slice lao j lc) (.slice wao k wc) E vs (t + 1) (.slice (some ⟨g1, o1, none⟩) (j + t + 1) cap1) (.slice wa N wcc) w4) := hB4; clear hB4 hown4 hf4 m0 m1 hcur) | (at_builtin; refine wpList_own2 _ rfl (.tmp 50) (.tmp 54) 30 rfl 84 i8 _ 2 32 Try.underlying30 hi8 hy0 hy1 hy2 rfl (by decide) base (.slice wa N wcc) N (ecells (E ++ vs.map fun v => (v, (k : Int)))) rfl (by exact hent4.other (fun g _ hlt => Below.heap_alloc _ _ _ hlt)) ⟨w4.heap.size, 0, none⟩ 1 [.slice (some ⟨g1, o1, none⟩) (j + t + 1) cap1, .int .i64 k] rfl rfl (by exact box2_cells _ _ _ _ _ rfl) (entry_oneCell _ _ _ _) (by unfold maxLen; omega) (by omega) (by simp; omega) ?_; intro g2 o2 cap2 w5 hown5 hf5; have hB5 := HB4.out.bookAt (w1 := w4.alloc (.cells #[.slice (some ⟨g1, o1, none⟩) (j + t + 1) cap1, .int .i64 k] 84)) rfl (by rw [← HN.out]; exact hf5); have r1 := cell_at hB5 (i := 2) rfl; have r2 : w5.frozen? ⟨Bb, 2, none⟩ = false := frozen_of_row _ _ _ _ _ hB5; clear hB5))
          go_roundw
          case rel =>
            refine ⟨t + 1, vs ++ [.slice (some ⟨g1, o1, none⟩) (j + t + 1) cap1], some ⟨g1, o1, none⟩, cap1, .slice (some ⟨g2, o2, none⟩) (N + 1) cap2, by omega, by go_num, rfl, by rw [List.length_append, HVL.out]; rfl, ?_⟩
            have hnt := HB4.out.note (w1 := w4.alloc (.cells #[.slice (some ⟨g1, o1, none⟩) (j + t + 1) cap1, .int .i64 k] 84)) (w2 := w5) (g' := g2) (o' := o2) (cap' := cap2) (ob := .cells #[.slice (some ⟨g1, o1, none⟩) (j + t + 1) cap1, .int .i64 k] 84) hbase hltB rfl rfl rfl rfl (by rw [← HN.out]; exact hown5) (by rw [← HN.out]; exact hf5)
            rw [← HN.out] at hnt
            exact hnt
          case measure => simp [intOf]; omega
        · obtain rfl : t = 3 := by omega
          clear hvl hbk
          go_wp2
          go_end0
          exact ⟨rfl, vs, _, wv, HVL.out, HBT.out⟩
end Go.Proofs.Ytilcmkiihefkkaa
