import Derived.Test.YtilcmkiihefkkaaBkSC
import Derived.Test.YtilcmkiihefkkaaBkSD
import Derived.Test.YtilcmkiihefkkaaPPar
set_option linter.unusedVariables false
set_option linter.unusedSimpArgs false
set_option maxRecDepth 100000
namespace Go.Proofs.Ytilcmkiihefkkaa
open Go.RowKit

theorem parseL_length : ∀ (l : List ByteArray) (i : Nat) (L : List S2), (parseL i L l).1.length ≤ L.length + l.length
  | [], i, L => by rw [parseL]; simp
  | x :: r, i, L => by
    rw [parseL]
    split
    · rename_i h
      have := parseL_length r (i + 1) (pstep L x).2
      have := (pstep_grow L x h).1
      simp
      omega
    · simp

theorem parseR_length (s : ByteArray) : (parseR s).1.length ≤ 8000 := by
  unfold parseR
  split
  · simp
  · have := parseL_length (linesB s) 0 []
    have := linesB_length s
    simp at *
    omega

theorem rparse_at (s : ByteArray) (w : World) (hs : s.size ≤ 140737488351232) (L : List S2) (F K : Nat) (h : parseR s = (L, F, K)) :
    Calls Try.prog 9 #[.string s] w fun e w' => ∃ v, e = .returned (.tuple #[v, .int .i64 F, .int .i64 K]) ∧ OwnR w' w.heap.size 70 2 v L.length (qcells L) ∧ (F ≠ 0 → v = .slice none 0 0) ∧ Below w.heap.size w w' := by
  have := rparse_any s w hs
  rw [h] at this
  exact this

theorem parse_at (s : ByteArray) (w : World) (hs : s.size ≤ 140737488351232) (L : List S2) (F K : Nat) (h : parseR s = (L, F, K)) :
    Calls Try.prog 10 #[.string s] w fun e w' => ∃ v, e = .returned (.tuple #[v, .int .i64 F, .int .i64 K]) ∧ OwnR w' w.heap.size 70 2 v L.length (qcells L) ∧ (F ≠ 0 → v = .slice none 0 0) ∧ Below w.heap.size w w' := by
  have := parse_any s w hs
  rw [h] at this
  exact this

theorem BkS.below {w0 w : World} {base Bb k n c B : Nat} {v0 wv0 lv wv : Value} {E : List (Value × Int)} {vs : List Value} (h : BkS w0 base Bb k n v0 wv0 E vs c lv wv w) (hB : B ≤ Bb) (hw : B ≤ w0.heap.size) (hv : ∀ g, v0.ownBlock = some g → B ≤ g) (hwv : ∀ g, wv0.ownBlock = some g → B ≤ g) : Below B w0 w :=
  ⟨h.os, h.tape, h.output, Nat.le_of_lt h.size, fun q hq => h.other q (by omega) (by omega) (fun he => by have := hwv q he; omega) (fun he => by have := hv q he; omega)⟩

/-- all that is written down -/
def entq (vs1 vs2 : List Value) : List (Value × Int) := (vs1.map fun v => (v, ((0 : Nat) : Int))) ++ (vs2.map fun v => (v, ((4 : Nat) : Int)))

/-- both lists are written down, and looked at -/
theorem bookq_two {w6 w7 x7 w8 : World} {base Bb n : Nat} {v1 v2 lv1 wv1 lv2 wv2 : Value} {vs1 vs2 : List Value} (hn : n < 1000000000)
    (h1 : BkS w6 base Bb 0 n v1 (.slice none 0 0) [] vs1 3 lv1 wv1 w7) (hx : Below w7.heap.size w7 x7)
    (h2 : BkS x7 base Bb 4 n v2 wv1 (vs1.map fun v => (v, ((0 : Nat) : Int))) vs2 3 lv2 wv2 w8)
    (hv2 : ∀ g, v2.ownBlock = some g → g < w6.heap.size ∧ v1.ownBlock ≠ some g) :
    ∀ i (h : i < (entq vs1 vs2).length), ∃ n' mk : Nat, (entq vs1 vs2)[i].2 = mk ∧ mk ≤ 1000 ∧ n' < 4398046511104 ∧ OwnR w8 base 70 2 (entq vs1 vs2)[i].1 n' (qcells (markq n' mk)) := by
  intro i hi
  have hmem := List.getElem_mem hi
  generalize (entq vs1 vs2)[i] = e at *
  unfold entq at hmem
  rw [List.mem_append, List.mem_map, List.mem_map] at hmem
  rcases hmem with ⟨v, hv, rfl⟩ | ⟨v, hv, rfl⟩
  · obtain ⟨j, hj, ho, _⟩ := h1.sl v hv
    refine ⟨n + j, 0, rfl, by omega, by omega, ho.other (fun g hg hlt => ?_)⟩
    have hsz := h1.size
    have hxs := hx.size
    refine (h2.other g (by omega) (fun e => ?_) (fun he => ?_) (fun he => ?_)).trans (hx.block g hlt)
    · subst e
      exact ho.tag (by decide) h1.book hg
    · obtain ⟨_, hh⟩ := h1.ent
      rcases hh with ⟨hz, _⟩ | ⟨g2, o2, cap2, cur2, hz, _, hb2, _⟩
      · rw [hz] at he; simp [Value.ownBlock] at he
      · rw [hz] at he
        simp only [Value.ownBlock, Option.some.injEq] at he
        subst he
        exact ho.tag (by decide) hb2 hg
    · obtain ⟨q1, q2⟩ := hv2 g he
      rcases (h1.nm v (Or.inr hv)).2 g hg with h3 | h3
      · exact q2 h3
      · omega
  · obtain ⟨j, hj, ho, _⟩ := h2.sl v hv
    exact ⟨n + j, 4, rfl, by omega, by omega, ho⟩

set_option maxRecDepth 100000 in
set_option maxHeartbeats 8000000 in
theorem parses_ok (s : ByteArray) (w : World) (hs : s.size ≤ 140737488351232) (L : List S2) (F K : Nat) (hR : parseR s = (L, F, K)) (hL : L.length ≤ 8000) (hF : F = 0) :
    Calls Try.prog 3 #[.string s] w fun e w' => e = .returned (.bool true) ∧ Below w.heap.size w w' := by
  have hneq := fun w => run_neq_slice_nil_any (P := Try.prog) w 22 70 none 0 0 0 0 Try.underlying22
  have HR : Hid (parseR s = (L, F, K)) := hR
  clear hR
  subst hF
  go_enter Try.func3, Try.ntmps3
  go_wp2_with fail
  refine (rparse_at s w hs L 0 K HR.out).mono ?_
  rintro e w1 ⟨wv, rfl, hw, hwz, hb1⟩
  go_wp2_with fail
  refine (parse_at s w1 hs L 0 K HR.out).mono ?_
  rintro e w2 ⟨v1, rfl, h1o, h1z, hb2⟩
  go_wp2_with fail
  refine (parse_at s w2 hs L 0 K HR.out).mono ?_
  rintro e w3 ⟨v2, rfl, h2o, h2z, hb3⟩
  have hw3 : OwnR w3 w.heap.size 70 2 wv L.length (qcells L) := (hw.other (fun g hg hlt => hb2.block g hlt)).other (fun g hg hlt => hb3.block g hlt)
  have h13 : OwnR w3 w1.heap.size 70 2 v1 L.length (qcells L) := h1o.other (fun g hg hlt => hb3.block g hlt)
  go_wp2_with fail
  refine (sameSeqs_any L w1.heap.size w.heap.size v1 wv _ (by omega) h13 hw3).mono ?_
  rintro e w5 ⟨rfl, m5, rfl⟩
  go_wp2_with fail
  refine (sameSeqs_any L w2.heap.size w.heap.size v2 wv (w3.drewN m5) (by omega) (h2o.other (fun g _ _ => rfl)) (hw3.other (fun g _ _ => rfl))).mono ?_
  rintro e w5' ⟨rfl, m6, rfl⟩
  have HBW : Hid (Below w.heap.size w w3) := (hb1.trans (hb2.mono hb1.size)).trans (hb3.mono (Nat.le_trans hb1.size hb2.size))
  have HO1 : Hid (OwnR w3 w.heap.size 70 2 v1 L.length (qcells L)) := h13.low hb1.size
  have HO2 : Hid (OwnR w3 w.heap.size 70 2 v2 L.length (qcells L)) := h2o.low (Nat.le_trans hb1.size hb2.size)
  have HDI : Hid (∀ g, (v2 : Value).ownBlock = some g → g < w3.heap.size ∧ (v1 : Value).ownBlock ≠ some g) := fun g hg => ⟨(h2o.lt hg).2, fun he => by have a := (h1o.lt he).2; have b := (h2o.lt hg).1; omega⟩
  clear hb1 hb2 hb3 hw3 h13 h2o h1o hw
  go_wp2_with fail
  refine (ownq_any w3.heap.size 0 L.length L rfl [] rfl w.heap.size v1 (.slice none 0 0) _ (by omega) (by omega) (by have := HBW.out.size; simp; omega) (heap_alloc_new (w3.drewN (m5 + m6)) _) (OwnR.nil _ _ _ _) (HO1.out.other (w' := ((w3.drewN (m5 + m6)).alloc (.cells #[.slice none 0 0, .slice none 0 0, .slice none 0 0, .slice none 0 0, .slice none 0 0] 34))) (fun g _ hlt => Below.heap_alloc (w3.drewN (m5 + m6)) _ _ hlt))).mono ?_
  rintro e w7 ⟨rfl, x6, vs1, lv1, wv1, hl1, hx6, hb7⟩
  have HX6 : Hid (Below ((w3.drewN (m5 + m6)).alloc (.cells #[.slice none 0 0, .slice none 0 0, .slice none 0 0, .slice none 0 0, .slice none 0 0] 34)).heap.size ((w3.drewN (m5 + m6)).alloc (.cells #[.slice none 0 0, .slice none 0 0, .slice none 0 0, .slice none 0 0, .slice none 0 0] 34)) x6) := hx6
  have HB7 : Hid (BkS x6 w.heap.size w3.heap.size 0 L.length v1 (.slice none 0 0) [] vs1 3 lv1 wv1 w7) := hb7
  have HL1 : Hid (vs1.length = 4) := hl1
  have HE7 : Hid (OwnR w7 w.heap.size 80 2 wv1 4 (ecells (vs1.map fun v => (v, ((0 : Nat) : Int))))) := by
    have := hb7.ent
    simp only [List.length_nil, Nat.zero_add, List.nil_append, hl1] at this
    exact this
  have hsA : ((w3.drewN (m5 + m6)).alloc (.cells #[.slice none 0 0, .slice none 0 0, .slice none 0 0, .slice none 0 0, .slice none 0 0] 34)).heap.size = w3.heap.size + 1 := by simp
  have hs6 : w3.heap.size + 1 ≤ x6.heap.size := by rw [← hsA]; exact hx6.size
  have HO7 : Hid (OwnR w7 w.heap.size 70 2 v2 L.length (qcells L)) := HO2.out.other (fun g hg hlt => (hb7.other g (by omega) (by omega) (fun he => by simp [Value.ownBlock] at he) (HDI.out g hg).2).trans ((hx6.block g (by omega)).trans (Below.heap_alloc (w3.drewN (m5 + m6)) _ _ hlt)))
  have HS6 : Hid (w3.heap.size + 1 ≤ x6.heap.size) := hs6
  have HS7 : Hid (w3.heap.size + 1 < w7.heap.size) := by show _ < _; have := hb7.size; omega
  clear hb7 hl1 hx6 hs6 hsA
  go_wp2_with fail
  refine (ownq_any w3.heap.size 4 L.length L rfl (vs1.map fun v => (v, ((0 : Nat) : Int))) (by rw [List.length_map]; exact HL1.out) w.heap.size v2 wv1 w7 (by omega) (by omega) (by have := HS7.out; have := HBW.out.size; omega) HB7.out.book HE7.out HO7.out).mono ?_
  rintro e w8 ⟨rfl, x7, vs2, lv2, wv2, hl2, hx7, hb8⟩
  have HX7 : Hid (Below w7.heap.size w7 x7) := hx7
  have HB8 : Hid (BkS x7 w.heap.size w3.heap.size 4 L.length v2 wv1 (vs1.map fun v => (v, ((0 : Nat) : Int))) vs2 3 lv2 wv2 w8) := hb8
  have HL2 : Hid (vs2.length = 4) := hl2
  clear hb8 hl2 hx7
  go_wp2_with fail
  have hle : (entq vs1 vs2).length = 8 := by unfold entq; rw [List.length_append, List.length_map, List.length_map, HL1.out, HL2.out]
  refine (looksq_any w3.heap.size w.heap.size (entq vs1 vs2) wv2 w8 (by omega) HB8.out.book (by
    have := HB8.out.ent
    rw [List.length_map, HL1.out, HL2.out] at this
    rw [hle]
    exact this) (bookq_two (by omega) HB7.out HX7.out HB8.out (fun g hg => ⟨by have := (HDI.out g hg).1; have := HS6.out; omega, (HDI.out g hg).2⟩))).mono ?_
  rintro e w9 ⟨rfl, hb9⟩
  clear hle
  go_wp2
  go_ret
  refine ⟨rfl, ?_⟩
  have hA : Below w.heap.size w ((w3.drewN (m5 + m6)).alloc (.cells #[.slice none 0 0, .slice none 0 0, .slice none 0 0, .slice none 0 0, .slice none 0 0] 34)) := by
    have := HBW.out.alloc HBW.out.size (.cells #[.slice none 0 0, .slice none 0 0, .slice none 0 0, .slice none 0 0, .slice none 0 0] 34)
    exact ⟨this.os, this.tape, this.output, this.size, this.block⟩
  have hA6 : Below w.heap.size w x6 := hA.trans (HX6.out.mono hA.size)
  have hB : Below w.heap.size w w7 := hA6.trans (HB7.out.below HBW.out.size hA6.size (fun g hg => (HO1.out.lt hg).1) (fun g hg => by simp [Value.ownBlock] at hg))
  have hB7 : Below w.heap.size w x7 := hB.trans (HX7.out.mono hB.size)
  have hC : Below w.heap.size w w8 := hB7.trans (HB8.out.below HBW.out.size hB7.size (fun g hg => (HO7.out.lt hg).1) (fun g hg => (HE7.out.lt hg).1))
  exact hC.trans (hb9.mono hC.size)

set_option maxRecDepth 100000 in
set_option maxHeartbeats 8000000 in
theorem parses_bad (s : ByteArray) (w : World) (hs : s.size ≤ 140737488351232) (L : List S2) (F K : Nat) (hR : parseR s = (L, F, K)) (hL : L.length ≤ 8000) (hF : F ≠ 0) :
    Calls Try.prog 3 #[.string s] w fun e w' => e = .returned (.bool true) ∧ Below w.heap.size w w' := by
  have hneq := fun w => run_neq_slice_nil_any (P := Try.prog) w 22 70 none 0 0 0 0 Try.underlying22
  have HR : Hid (parseR s = (L, F, K)) := hR
  clear hR
  go_enter Try.func3, Try.ntmps3
  go_wp2_with fail
  refine (rparse_at s w hs L F K HR.out).mono ?_
  rintro e w1 ⟨wv, rfl, hw, hwz, hb1⟩
  obtain rfl := hwz hF
  go_wp2_with fail
  refine (parse_at s w1 hs L F K HR.out).mono ?_
  rintro e w2 ⟨v1, rfl, h1o, h1z, hb2⟩
  obtain rfl := h1z hF
  go_wp2_with fail
  refine (parse_at s w2 hs L F K HR.out).mono ?_
  rintro e w3 ⟨v2, rfl, h2o, h2z, hb3⟩
  obtain rfl := h2z hF
  have hw3 : OwnR w3 w.heap.size 70 2 (.slice none 0 0) L.length (qcells L) := (hw.other (fun g hg hlt => hb2.block g hlt)).other (fun g hg hlt => hb3.block g hlt)
  have h13 : OwnR w3 w1.heap.size 70 2 (.slice none 0 0) L.length (qcells L) := h1o.other (fun g hg hlt => hb3.block g hlt)
  go_wp2_with fail
  refine (sameSeqs_any L w1.heap.size w.heap.size (.slice none 0 0) (.slice none 0 0) _ (by omega) h13 hw3).mono ?_
  rintro e w5 ⟨rfl, m5, rfl⟩
  go_wp2_with fail
  refine (sameSeqs_any L w2.heap.size w.heap.size (.slice none 0 0) (.slice none 0 0) (w3.drewN m5) (by omega) (h2o.other (fun g _ _ => rfl)) (hw3.other (fun g _ _ => rfl))).mono ?_
  rintro e w5' ⟨rfl, m6, rfl⟩
  have HBW : Hid (Below w.heap.size w w3) := (hb1.trans (hb2.mono hb1.size)).trans (hb3.mono (Nat.le_trans hb1.size hb2.size))
  have HO1 : Hid (OwnR w3 w.heap.size 70 2 (.slice none 0 0) L.length (qcells L)) := h13.low hb1.size
  have HO2 : Hid (OwnR w3 w.heap.size 70 2 (.slice none 0 0) L.length (qcells L)) := h2o.low (Nat.le_trans hb1.size hb2.size)
  have HDI : Hid (∀ g, ((.slice none 0 0) : Value).ownBlock = some g → g < w3.heap.size ∧ ((.slice none 0 0) : Value).ownBlock ≠ some g) := fun g hg => ⟨(h2o.lt hg).2, fun he => by have a := (h1o.lt he).2; have b := (h2o.lt hg).1; omega⟩
  clear hb1 hb2 hb3 hw3 h13 h2o h1o hw
  go_wp2_with fail
  refine (ownq_any w3.heap.size 0 L.length L rfl [] rfl w.heap.size (.slice none 0 0) (.slice none 0 0) _ (by omega) (by omega) (by have := HBW.out.size; simp; omega) (heap_alloc_new (w3.drewN (m5 + m6)) _) (OwnR.nil _ _ _ _) (HO1.out.other (w' := ((w3.drewN (m5 + m6)).alloc (.cells #[.slice none 0 0, .slice none 0 0, .slice none 0 0, .slice none 0 0, .slice none 0 0] 34))) (fun g _ hlt => Below.heap_alloc (w3.drewN (m5 + m6)) _ _ hlt))).mono ?_
  rintro e w7 ⟨rfl, x6, vs1, lv1, wv1, hl1, hx6, hb7⟩
  have HX6 : Hid (Below ((w3.drewN (m5 + m6)).alloc (.cells #[.slice none 0 0, .slice none 0 0, .slice none 0 0, .slice none 0 0, .slice none 0 0] 34)).heap.size ((w3.drewN (m5 + m6)).alloc (.cells #[.slice none 0 0, .slice none 0 0, .slice none 0 0, .slice none 0 0, .slice none 0 0] 34)) x6) := hx6
  have HB7 : Hid (BkS x6 w.heap.size w3.heap.size 0 L.length (.slice none 0 0) (.slice none 0 0) [] vs1 3 lv1 wv1 w7) := hb7
  have HL1 : Hid (vs1.length = 4) := hl1
  have HE7 : Hid (OwnR w7 w.heap.size 80 2 wv1 4 (ecells (vs1.map fun v => (v, ((0 : Nat) : Int))))) := by
    have := hb7.ent
    simp only [List.length_nil, Nat.zero_add, List.nil_append, hl1] at this
    exact this
  have hsA : ((w3.drewN (m5 + m6)).alloc (.cells #[.slice none 0 0, .slice none 0 0, .slice none 0 0, .slice none 0 0, .slice none 0 0] 34)).heap.size = w3.heap.size + 1 := by simp
  have hs6 : w3.heap.size + 1 ≤ x6.heap.size := by rw [← hsA]; exact hx6.size
  have HO7 : Hid (OwnR w7 w.heap.size 70 2 (.slice none 0 0) L.length (qcells L)) := HO2.out.other (fun g hg hlt => (hb7.other g (by omega) (by omega) (fun he => by simp [Value.ownBlock] at he) (HDI.out g hg).2).trans ((hx6.block g (by omega)).trans (Below.heap_alloc (w3.drewN (m5 + m6)) _ _ hlt)))
  have HS6 : Hid (w3.heap.size + 1 ≤ x6.heap.size) := hs6
  have HS7 : Hid (w3.heap.size + 1 < w7.heap.size) := by show _ < _; have := hb7.size; omega
  clear hb7 hl1 hx6 hs6 hsA
  go_wp2_with fail
  refine (ownq_any w3.heap.size 4 L.length L rfl (vs1.map fun v => (v, ((0 : Nat) : Int))) (by rw [List.length_map]; exact HL1.out) w.heap.size (.slice none 0 0) wv1 w7 (by omega) (by omega) (by have := HS7.out; have := HBW.out.size; omega) HB7.out.book HE7.out HO7.out).mono ?_
  rintro e w8 ⟨rfl, x7, vs2, lv2, wv2, hl2, hx7, hb8⟩
  have HX7 : Hid (Below w7.heap.size w7 x7) := hx7
  have HB8 : Hid (BkS x7 w.heap.size w3.heap.size 4 L.length (.slice none 0 0) wv1 (vs1.map fun v => (v, ((0 : Nat) : Int))) vs2 3 lv2 wv2 w8) := hb8
  have HL2 : Hid (vs2.length = 4) := hl2
  clear hb8 hl2 hx7
  go_wp2_with fail
  have hle : (entq vs1 vs2).length = 8 := by unfold entq; rw [List.length_append, List.length_map, List.length_map, HL1.out, HL2.out]
  refine (looksq_any w3.heap.size w.heap.size (entq vs1 vs2) wv2 w8 (by omega) HB8.out.book (by
    have := HB8.out.ent
    rw [List.length_map, HL1.out, HL2.out] at this
    rw [hle]
    exact this) (bookq_two (by omega) HB7.out HX7.out HB8.out (fun g hg => ⟨by have := (HDI.out g hg).1; have := HS6.out; omega, (HDI.out g hg).2⟩))).mono ?_
  rintro e w9 ⟨rfl, hb9⟩
  clear hle
  go_wp2
  go_ret
  refine ⟨rfl, ?_⟩
  have hA : Below w.heap.size w ((w3.drewN (m5 + m6)).alloc (.cells #[.slice none 0 0, .slice none 0 0, .slice none 0 0, .slice none 0 0, .slice none 0 0] 34)) := by
    have := HBW.out.alloc HBW.out.size (.cells #[.slice none 0 0, .slice none 0 0, .slice none 0 0, .slice none 0 0, .slice none 0 0] 34)
    exact ⟨this.os, this.tape, this.output, this.size, this.block⟩
  have hA6 : Below w.heap.size w x6 := hA.trans (HX6.out.mono hA.size)
  have hB : Below w.heap.size w w7 := hA6.trans (HB7.out.below HBW.out.size hA6.size (fun g hg => (HO1.out.lt hg).1) (fun g hg => by simp [Value.ownBlock] at hg))
  have hB7 : Below w.heap.size w x7 := hB.trans (HX7.out.mono hB.size)
  have hC : Below w.heap.size w w8 := hB7.trans (HB8.out.below HBW.out.size hB7.size (fun g hg => (HO7.out.lt hg).1) (fun g hg => (HE7.out.lt hg).1))
  exact hC.trans (hb9.mono hC.size)

theorem parses_any (s : ByteArray) (w : World) (hs : s.size ≤ 140737488351232) :
    Calls Try.prog 3 #[.string s] w fun e w' => e = .returned (.bool true) ∧ Below w.heap.size w w' := by
  have hl := parseR_length s
  obtain ⟨L, F, K, hR⟩ : ∃ L F K, parseR s = (L, F, K) := ⟨_, _, _, rfl⟩
  rw [hR] at hl
  by_cases hF : F = 0
  · exact parses_ok s w hs L F K hR hl hF
  · exact parses_bad s w hs L F K hR hl hF

end Go.Proofs.Ytilcmkiihefkkaa
