import Derived.Test.YtilcmkiihefkkabGreatDoorJk43
section
set_option linter.unusedVariables false
set_option linter.unusedSimpArgs false
set_option maxRecDepth 100000
namespace Go.Proofs.YtilcmkiihefkkabGreatDoor.Mn
open Go.RowKit Go.Shelf Go.Lib
attribute [local go_sem] run_store_flt
set_option maxHeartbeats 8000000 in
theorem found_f (R : List S2) (X k W sc base base2 g o cp m i r0 p0 r1 p1 : Nat) (rv mv : Value) (rn rb : ByteArray) (Ch : List (Int × Int)) (sq oq : Int) (w : World)
    (hX : w.heap[X]? = some (.cells (ixC k W sc rv mv) 59 (0, 0))) (hR : OwnR w base 62 2 rv R.length (qcells R)) (hi : i < R.length) (hC : OwnR w base2 140 2 (.slice (some ⟨g, o, none⟩) m cp) m (acells Ch)) (hm : Ch.length = m) (hm0 : 0 < m) (hm4 : m ≤ 400)
    (hc0 : Ch.getD 0 (0, 0) = ((r0 : Int), (p0 : Int))) (hc1 : Ch.getD (m - 1) (0, 0) = ((r1 : Int), (p1 : Int))) (hk : k ≤ 12) (hr1 : r0 < r1 + k) (hr2 : r1 + k ≤ rb.size) (hp1 : p0 ≤ p1 + k) (hp2 : p1 + k ≤ (R.getD i S0).b.size) (hrb : rb.size ≤ 100000) (hfb : (R.getD i S0).b.size ≤ 100000)
    (ho1 : 0 ≤ oq) (ho2 : oq ≤ sq) (ho3 : 0 < sq) (ho4 : sq ≤ 100000) (hg : good rb) (hfn : 1 ≤ (R.getD i S0).n.size ∧ (R.getD i S0).n.size ≤ 8000) (hR4 : R.length < 100000)
    (htab : Lib.TabBelow Tryz.prog w.heap.size w "internal/strconv.uint64pow10" .u64 Lib.pow10Tab) (hLt : LtP w) :
    Calls Tryz.prog 46 #[.pointer (some ⟨X, 0, none⟩), .agg #[.string rn, .string rb], .agg #[.int .i64 i, .bool false, .slice (some ⟨g, o, none⟩) m cp, .float .f64 (fq sq)], .float .f64 (fq oq)] w fun e w' =>
      FnP k rn rb (R.getD i S0).n (R.getD i S0).b false r0 p0 r1 p1 sq oq w e w' := by
  obtain ⟨rf, hrf⟩ : ∃ rf, rf = R.getD i S0 := ⟨_, rfl⟩
  rw [← hrf] at hp2 hfb hfn ⊢
  have hXl : X < w.heap.size := lt_of_block hX
  obtain ⟨gr, or, cr, hrv, hgr⟩ : ∃ gr or cr, rv = .slice (some ⟨gr, or, none⟩) R.length cr ∧ gr < w.heap.size := by
    rcases hR.2 with ⟨_, h0⟩ | ⟨g', o', cap, cur, h, _, hg', _⟩
    · omega
    · exact ⟨g', o', cap, h, lt_of_block hg'⟩
  subst hrv
  have hRc := hR.seqs i hi
  rw [show R[i] = rf by rw [hrf, getD_get _ _ _ hi]] at hRc
  have hgC : g < w.heap.size := (hC.lt (g := g) rfl).2
  have hCc := hC.ans
  have hC0 := hCc 0 (by omega)
  have hC1 := hCc (m - 1) (by omega)
  rw [show Ch[0]'(by omega) = ((r0 : Int), (p0 : Int)) by rw [← hc0, getD_get _ _ _ (by omega)]] at hC0
  rw [show Ch[m - 1]'(by omega) = ((r1 : Int), (p1 : Int)) by rw [← hc1, getD_get _ _ _ (by omega)]] at hC1
  have HX : Hid (w.heap[X]? = some (.cells (ixC k W sc (.slice (some ⟨gr, or, none⟩) R.length cr) mv) 59 (0, 0))) := hX
  have HR0 : Hid (w.cell? ⟨gr, or + i * 2, none⟩ = some (.string rf.n) ∧ w.cell? ⟨gr, or + i * 2 + 1, none⟩ = some (.string rf.b)) := hRc
  have HC0 : Hid (w.cell? ⟨g, o, none⟩ = some (.int .i64 r0) ∧ w.cell? ⟨g, o + 1, none⟩ = some (.int .i64 p0)) := (by have h := hC0; simp only [Nat.zero_mul, Nat.add_zero] at h; exact h)
  have HC1 : Hid (w.cell? ⟨g, o + (m - 1) * 2, none⟩ = some (.int .i64 r1) ∧ w.cell? ⟨g, o + (m - 1) * 2 + 1, none⟩ = some (.int .i64 p1)) := hC1
  have HTB : Hid (Lib.TabBelow Tryz.prog w.heap.size w "internal/strconv.uint64pow10" .u64 Lib.pow10Tab) := htab
  have HLT : Hid (LtP w) := hLt
  have HGD : Hid (good rb) := hg
  obtain ⟨nR, hnR⟩ : ∃ n, n = R.length := ⟨_, rfl⟩
  rw [← hnR] at hi hR4 HX
  have HPO : Hid ((0 ≤ oq ∧ oq ≤ sq) ∧ 0 < sq ∧ sq ≤ 100000) := ⟨⟨ho1, ho2⟩, ho3, ho4⟩
  clear hX hR hRc hC hCc hC0 hC1 hc0 hc1 hm hrf htab hLt hg hnR ho1 ho2 ho3 ho4
  go_enter Tryz.func46, Tryz.ntmps46
  go_wp2_with fail
  rename_i Q0 K0 hK0
  obtain ⟨wA, hwA⟩ : ∃ W1 : World, W1 = ((w.alloc (Obj.cells #[Value.string rn, Value.string rb] 62)).alloc (Obj.cells #[Value.int IntKind.i64 ↑i, Value.bool false, Value.slice (some { block := g, off := o }) m cp, Value.float FloatKind.f64 (fq sq)] 112)).alloc (Obj.cells #[Value.string { data := #[] }, Value.int IntKind.i64 0, Value.int IntKind.i64 0, Value.bool false, Value.string { data := #[] }, Value.int IntKind.i64 0, Value.int IntKind.i64 0, Value.float FloatKind.f64 0, Value.float FloatKind.f64 0, Value.int IntKind.i64 0, Value.string { data := #[] }, Value.int IntKind.i64 0, Value.float FloatKind.f64 0] 46) := ⟨_, rfl⟩
  rw [← hwA]
  have hbA : Below w.heap.size w wA := by rw [hwA]; exact (((Below.refl _ _).alloc (Nat.le_refl _) _).alloc (by simp) _).alloc (by simp; omega) _
  have hsA : wA.heap.size = w.heap.size + 3 := by rw [hwA]; simp
  have hA0 : wA.heap[w.heap.size]? = some (.cells #[Value.string rn, Value.string rb] 62 (0, 0)) := by
    rw [hwA, Below.heap_alloc _ _ _ (by simp; omega), Below.heap_alloc _ _ _ (by simp)]; exact heap_alloc_new w _
  have hA1 : wA.heap[w.heap.size + 1]? = some (.cells #[Value.int IntKind.i64 ↑i, Value.bool false, Value.slice (some { block := g, off := o }) m cp, Value.float FloatKind.f64 (fq sq)] 112 (0, 0)) := by
    rw [hwA, Below.heap_alloc _ _ _ (by simp)]
    have := heap_alloc_new (w.alloc (Obj.cells #[Value.string rn, Value.string rb] 62)) (Obj.cells #[Value.int IntKind.i64 ↑i, Value.bool false, Value.slice (some { block := g, off := o }) m cp, Value.float FloatKind.f64 (fq sq)] 112)
    have e1 : (w.alloc (Obj.cells #[Value.string rn, Value.string rb] 62)).heap.size = w.heap.size + 1 := by simp
    rw [e1] at this; exact this
  have hA2 : wA.heap[w.heap.size + 1 + 1]? = some (.cells #[Value.string { data := #[] }, Value.int IntKind.i64 0, Value.int IntKind.i64 0, Value.bool false, Value.string { data := #[] }, Value.int IntKind.i64 0, Value.int IntKind.i64 0, Value.float FloatKind.f64 0, Value.float FloatKind.f64 0, Value.int IntKind.i64 0, Value.string { data := #[] }, Value.int IntKind.i64 0, Value.float FloatKind.f64 0] 46 (0, 0)) := by
    rw [hwA]
    have := heap_alloc_new ((w.alloc (Obj.cells #[Value.string rn, Value.string rb] 62)).alloc (Obj.cells #[Value.int IntKind.i64 ↑i, Value.bool false, Value.slice (some { block := g, off := o }) m cp, Value.float FloatKind.f64 (fq sq)] 112)) (Obj.cells #[Value.string { data := #[] }, Value.int IntKind.i64 0, Value.int IntKind.i64 0, Value.bool false, Value.string { data := #[] }, Value.int IntKind.i64 0, Value.int IntKind.i64 0, Value.float FloatKind.f64 0, Value.float FloatKind.f64 0, Value.int IntKind.i64 0, Value.string { data := #[] }, Value.int IntKind.i64 0, Value.float FloatKind.f64 0] 46)
    have e1 : ((w.alloc (Obj.cells #[Value.string rn, Value.string rb] 62)).alloc (Obj.cells #[Value.int IntKind.i64 ↑i, Value.bool false, Value.slice (some { block := g, off := o }) m cp, Value.float FloatKind.f64 (fq sq)] 112)).heap.size = w.heap.size + 1 + 1 := by simp
    rw [e1] at this; exact this
  clear hwA
  have hiI : (i : Int) < (nR : Int) := by omega
  have keepC : ∀ (W1 : World) (b off : Nat) (v : Value), (∀ j, j < w.heap.size → W1.heap[j]? = w.heap[j]?) → b < w.heap.size → w.cell? ⟨b, off, none⟩ = some v → W1.cell? ⟨b, off, none⟩ = some v := fun W1 b off v h hb hv => (World.cell?_of_block (h b hb)).trans hv
  have g1 : ∀ W1 : World, (∀ j, j < w.heap.size + 3 → W1.heap[j]? = wA.heap[j]?) → W1.cell? ⟨X, 3, none⟩ = some (.slice (some ⟨gr, or, none⟩) nR cr) ∧ W1.cell? ⟨w.heap.size + 1, 0, none⟩ = some (.int .i64 i) ∧ W1.cell? ⟨gr, or + i * 2, none⟩ = some (.string rf.n) ∧ W1.cell? ⟨gr, or + i * 2 + 1, none⟩ = some (.string rf.b) ∧ W1.cell? ⟨w.heap.size, 1, none⟩ = some (.string rb) := by
    intro W1 hW
    have hW0 : ∀ j, j < w.heap.size → W1.heap[j]? = w.heap[j]? := fun j hj => (hW j (by omega)).trans (hbA.block j hj)
    exact ⟨cell_at ((hW0 X hXl).trans HX.out) rfl, cell_at ((hW _ (by omega)).trans hA1) rfl, keepC W1 _ _ _ hW0 hgr HR0.out.1, keepC W1 _ _ _ hW0 hgr HR0.out.2, cell_at ((hW _ (by omega)).trans hA0) rfl⟩
  refine wp_region_X 14 (fun W1 => W1.cell? ⟨X, 3, none⟩ = some (.slice (some ⟨gr, or, none⟩) nR cr) ∧ W1.cell? ⟨w.heap.size + 1, 0, none⟩ = some (.int .i64 i) ∧ W1.cell? ⟨gr, or + i * 2, none⟩ = some (.string rf.n) ∧ W1.cell? ⟨gr, or + i * 2 + 1, none⟩ = some (.string rf.b) ∧ W1.cell? ⟨w.heap.size, 1, none⟩ = some (.string rb)) (by kernel_rfl) (g1 wA.drew (fun _ _ => rfl)) (fun hH => ?_)
  refine wpZ 0 hH ?_
  refine wpZ 1 hH ?_
  refine wpZ 2 hH ?_
  refine wpZ 3 hH ?_
  refine wpZ 4 hH ?_
  refine wpZ 5 hH ?_
  refine wpZ 6 hH ?_
  refine wpZ 7 hH ?_
  refine wpZ 8 hH ?_
  refine wpZ 9 hH ?_
  refine wpZ 10 hH ?_
  refine wpAnyX_step (i := 11) (by kernel_rfl) rfl (by kernel_rfl) (fun K hK => ?_)
  go_simp
  refine hK.out _ _ (g1 _ (fun j hj => Below.heap_alloc wA.drew _ j (by show j < wA.heap.size; omega))) ?_
  clear hK K hH
  try simp only [Act.put, zA0, zZ0, zS0]
  refine wpAnyX_step (i := 12) (by kernel_rfl) rfl (by kernel_rfl) (fun K hK => ?_)
  go_simp
  obtain ⟨wB, hwB⟩ : ∃ W1 : World, W1 = (wA.alloc (Obj.cells #[Value.string rf.n, Value.string rf.b] 62)).drew := ⟨_, rfl⟩
  rw [← hwB]
  have hbB : ∀ j, j < w.heap.size + 3 → wB.heap[j]? = wA.heap[j]? := fun j hj => by rw [hwB]; exact Below.heap_alloc wA _ j (by omega)
  have hB3 : wB.heap[w.heap.size + 3]? = some (.cells #[Value.string rf.n, Value.string rf.b] 62 (0, 0)) := by rw [hwB, ← hsA]; exact heap_alloc_new wA _
  have hsB : wB.heap.size = w.heap.size + 4 := by rw [hwB]; show (wA.alloc _).heap.size = _; simp [hsA]
  have hbB0 : Below w.heap.size w wB := by
    refine ⟨?_, ?_, ?_, by omega, fun j hj => (hbB j (by omega)).trans (hbA.block j hj)⟩
    · rw [hwB]; exact hbA.os
    · rw [hwB]; exact hbA.tape
    · rw [hwB]; exact hbA.output
  refine hK.out _ _ (g1 wB (fun j hj => hbB j hj)) ?_
  clear hK K
  have hH := g1 wB (fun j hj => hbB j hj)
  try simp only [Act.put, zA0, zZ0, zS0]
  refine wpZ 13 hH ?_
  refine wpAnyX_done (by kernel_rfl) ?_
  refine hK0 _ _ ?_
  clear hK0 hH g1 hwB
  have q1 : wB.cell? ⟨w.heap.size + 1, 1, none⟩ = some (.bool false) := cell_at ((hbB _ (by omega)).trans hA1) rfl
  go_wp2_with fail
  rename_i K1 hK1
  obtain ⟨wC, hwC⟩ : ∃ W1 : World, W1 = wB := ⟨_, rfl⟩
  rw [← hwC] at hbB0
  have hCB : ∀ j, j < w.heap.size + 4 → wC.heap[j]? = wB.heap[j]? := fun j _ => by rw [hwC]
  have hsC : w.heap.size + 4 ≤ wC.heap.size := by rw [hwC]; omega
  rw [← hwC]
  clear hwC
  have hC1 : wC.heap[w.heap.size + 1]? = some (.cells #[Value.int IntKind.i64 ↑i, Value.bool false, Value.slice (some { block := g, off := o }) m cp, Value.float FloatKind.f64 (fq sq)] 112 (0, 0)) := (hCB _ (by omega)).trans ((hbB _ (by omega)).trans hA1)
  have hC0 : wC.heap[w.heap.size]? = some (.cells #[Value.string rn, Value.string rb] 62 (0, 0)) := (hCB _ (by omega)).trans ((hbB _ (by omega)).trans hA0)
  have hC2 := (hCB (w.heap.size + 1 + 1) (by omega)).trans ((hbB _ (by omega)).trans hA2)
  have hC3 : wC.heap[w.heap.size + 3]? = some (.cells #[Value.string rf.n, Value.string rf.b] 62 (0, 0)) := (hCB _ (by omega)).trans hB3
  clear hCB hbB hA0 hA1 hA2 hB3 hbA hsA hsB q1
  clear wB wA
  have hm1 : IntKind.i64.wrap ((m : Int) - 1) = ((m - 1 : Nat) : Int) := by rw [IntKind.wrap_i64]; omega
  have hmm : ((m - 1 : Nat) : Int) < (m : Int) := by omega
  have hm00 : (0 : Int) < (m : Int) := by omega
  have g4 : ∀ W1 : World, (∀ j, j < wC.heap.size → W1.heap[j]? = wC.heap[j]?) → W1.cell? ⟨w.heap.size + 1, 2, none⟩ = some (.slice (some ⟨g, o, none⟩) m cp) ∧ W1.cell? ⟨g, o, none⟩ = some (.int .i64 r0) ∧ W1.cell? ⟨g, o + 1, none⟩ = some (.int .i64 p0) ∧ W1.cell? ⟨g, o + (m - 1) * 2, none⟩ = some (.int .i64 r1) ∧ W1.cell? ⟨g, o + (m - 1) * 2 + 1, none⟩ = some (.int .i64 p1) := by
    intro W1 hW
    have hW0 : ∀ j, j < w.heap.size → W1.heap[j]? = w.heap[j]? := fun j hj => (hW j (by omega)).trans (hbB0.block j hj)
    exact ⟨cell_at ((hW _ (by omega)).trans hC1) rfl, keepC W1 _ _ _ hW0 hgC HC0.out.1, keepC W1 _ _ _ hW0 hgC HC0.out.2, keepC W1 _ _ _ hW0 hgC HC1.out.1, keepC W1 _ _ _ hW0 hgC HC1.out.2⟩
  have tail : ∀ (b0 b1 : Nat) (wD : World), (∀ j, j < wC.heap.size → wD.heap[j]? = wC.heap[j]?) → wD.heap[b0]? = some (.cells #[Value.int IntKind.i64 ↑r0, Value.int IntKind.i64 ↑p0] 140 (0, 0)) → wD.heap[b1]? = some (.cells #[Value.int IntKind.i64 ↑r1, Value.int IntKind.i64 ↑p1] 140 (0, 0)) → wC.heap.size ≤ wD.heap.size → Below w.heap.size w wD → K1 { tmps := #[Value.pointer (some { block := X, off := 0 }), Value.agg #[Value.string rn, Value.string rb], Value.agg #[Value.int IntKind.i64 ↑i, Value.bool false, Value.slice (some { block := g, off := o }) m cp, Value.float FloatKind.f64 (fq sq)], Value.float FloatKind.f64 (fq oq), undef, Value.pointer (some { block := w.heap.size, off := 0 }), Value.pointer (some { block := w.heap.size + 1, off := 0 }), undef, Value.pointer (some { block := w.heap.size + 1 + 1, off := 0 }), Value.bool false, Value.pointer (some { block := w.heap.size + 3, off := 0 }), Value.string rb, Value.pointer (some { block := b0, off := 0 }), Value.pointer (some { block := b1, off := 0 }), undef, undef, undef, undef, undef, undef, undef, Value.pointer (some { block := X, off := 0 }), Value.pointer (some { block := X, off := 0 }), Value.pointer (some { block := X, off := 3 }), Value.slice (some { block := gr, off := or }) nR cr, Value.pointer (some { block := w.heap.size + 1, off := 0 }), Value.pointer (some { block := w.heap.size + 1, off := 0 }), Value.int IntKind.i64 ↑i, Value.pointer (some { block := gr, off := or + i * 2 }), Value.agg #[Value.string rf.n, Value.string rf.b], Value.pointer (some { block := w.heap.size, off := 1 }), Value.string rb, Value.pointer (some { block := w.heap.size + 1, off := 0 }), Value.pointer (some { block := w.heap.size + 1, off := 1 }), Value.bool false, undef, undef, undef, undef, undef, Value.pointer (some { block := w.heap.size + 1, off := 2 }), Value.slice (some { block := g, off := o }) m cp, Value.pointer (some { block := g, off := o }), Value.agg #[Value.int IntKind.i64 ↑r0, Value.int IntKind.i64 ↑p0], Value.pointer (some { block := w.heap.size + 1, off := 2 }), Value.slice (some { block := g, off := o }) m cp, Value.pointer (some { block := w.heap.size + 1, off := 2 }), Value.slice (some { block := g, off := o }) m cp, Value.int IntKind.i64 ↑m, Value.int IntKind.i64 ↑(m - 1), Value.pointer (some { block := g, off := o + (m - 1) * 2 }), Value.agg #[Value.int IntKind.i64 ↑r1, Value.int IntKind.i64 ↑p1], undef, undef, undef, undef, undef, undef, undef, undef, undef, undef, undef, undef, undef, undef, undef, undef, undef, undef, undef, undef, undef, undef, undef, undef, undef, undef, undef, undef, undef, undef, undef, undef, undef, undef, undef, undef, undef, undef, undef, undef, undef, undef, undef, undef, undef, undef, undef, undef, undef, undef, undef, undef, undef, undef, undef, undef, undef, undef, undef, undef, undef, undef, undef, undef, undef, undef, undef, undef, undef, undef, undef, undef, undef, undef, undef, undef], defers := [] } wD := by
    intro b0 b1 wD hDC hD0 hD1 hsD hbD
    clear g4
    refine hK1 _ _ ?_
    clear hK1
    have hXD : wD.heap[X]? = _ := (hbD.block X hXl).trans HX.out
    go_wp2_with fail
    rename_i K2 hK2
    have hw5 : IntKind.i64.wrap ((r1 : Int) + k) = (r1 : Int) + k := by rw [IntKind.wrap_i64]; omega
    have hw6 : IntKind.i64.wrap ((p1 : Int) + k) = (p1 : Int) + k := by rw [IntKind.wrap_i64]; omega
    refine wp_region_X 12 (fun W1 => W1.cell? ⟨b0, 0, none⟩ = some (.int .i64 r0) ∧ W1.cell? ⟨b1, 0, none⟩ = some (.int .i64 r1) ∧ W1.cell? ⟨X, 0, none⟩ = some (.int .i64 k)) (by kernel_rfl) ⟨cell_at hD0 rfl, cell_at hD1 rfl, cell_at hXD rfl⟩ (fun hH => ?_)
    refine wpZ 0 hH ?_
    refine wpZ 1 hH ?_
    refine wpZ 2 hH ?_
    refine wpZ 3 hH ?_
    refine wpZ 4 hH ?_
    refine wpZ 5 hH ?_
    refine wpZ 6 hH ?_
    refine wpZ 7 hH ?_
    refine wpZ 8 hH ?_
    refine wpZ 9 hH ?_
    refine wpZ 10 hH ?_
    refine wpZ 11 hH ?_
    refine wpAnyX_done (by kernel_rfl) ?_
    refine hK2 _ _ ?_
    clear hK2 hH
    go_wp2_with fail
    rename_i K3 hK3
    refine wp_region_X 12 (fun W1 => W1.cell? ⟨b0, 1, none⟩ = some (.int .i64 p0) ∧ W1.cell? ⟨b1, 1, none⟩ = some (.int .i64 p1) ∧ W1.cell? ⟨X, 0, none⟩ = some (.int .i64 k)) (by kernel_rfl) ⟨cell_at hD0 rfl, cell_at hD1 rfl, cell_at hXD rfl⟩ (fun hH => ?_)
    refine wpZ 0 hH ?_
    refine wpZ 1 hH ?_
    refine wpZ 2 hH ?_
    refine wpZ 3 hH ?_
    refine wpZ 4 hH ?_
    refine wpZ 5 hH ?_
    refine wpZ 6 hH ?_
    refine wpZ 7 hH ?_
    refine wpZ 8 hH ?_
    refine wpZ 9 hH ?_
    refine wpZ 10 hH ?_
    refine wpZ 11 hH ?_
    refine wpAnyX_done (by kernel_rfl) ?_
    refine hK3 _ _ ?_
    clear hK3 hH
    obtain ⟨wE, hwE⟩ : ∃ W1 : World, W1 = wD.drew.drew := ⟨_, rfl⟩
    rw [← hwE]
    have hE3 : wE.heap[w.heap.size + 3]? = some (.cells #[Value.string rf.n, Value.string rf.b] 62 (0, 0)) := by rw [hwE]; exact (hDC _ (by omega)).trans hC3
    have hE1 : wE.heap[w.heap.size + 1]? = some (.cells #[Value.int IntKind.i64 ↑i, Value.bool false, Value.slice (some { block := g, off := o }) m cp, Value.float FloatKind.f64 (fq sq)] 112 (0, 0)) := by rw [hwE]; exact (hDC _ (by omega)).trans hC1
    have hE0 : wE.heap[w.heap.size]? = some (.cells #[Value.string rn, Value.string rb] 62 (0, 0)) := by rw [hwE]; exact (hDC _ (by omega)).trans hC0
    have hE2 := (show wE.heap[w.heap.size + 1 + 1]? = wD.heap[w.heap.size + 1 + 1]? by rw [hwE]; rfl).trans ((hDC _ (by omega)).trans hC2)
    have hbE : Below w.heap.size w wE := by rw [hwE]; exact ⟨hbD.os, hbD.tape, hbD.output, hbD.size, hbD.block⟩
    have hsE : w.heap.size + 4 ≤ wE.heap.size := by rw [hwE]; show _ ≤ wD.heap.size; omega
    clear hwE hbD hsD hD0 hD1 hDC hXD hbB0 hsC hC0 hC1 hC2 hC3 hw5 hw6 hm1 hmm hm00
    obtain ⟨bs, hbs⟩ : ∃ bs : ByteArray, bs = rb := ⟨_, rfl⟩
    have HBS : Hid (bsOf false rb = bs) := by show bsOf false rb = bs; rw [hbs]; (try rfl)
    have hbz : bs.size = rb.size := by rw [← HBS.out]; exact bsOf_size _ _
    rw [← hbs]
    clear hbs
    have i1 : (r0 : Int) ≤ (r1 : Int) + k := by omega
    have i2 : (r1 : Int) + k ≤ bs.size := by omega
    have i3 : (p0 : Int) ≤ (p1 : Int) + k := by omega
    have i4 : (p1 : Int) + k ≤ rf.b.size := by omega
    have i7 : (0 : Int) ≤ (r1 : Int) + k := by omega
    have i8 : (0 : Int) ≤ (p1 : Int) + k := by omega
    have t1 : ((r1 : Int) + k).toNat = r1 + k := by omega
    have t2 : ((p1 : Int) + k).toNat = p1 + k := by omega
    have HBZ : Hid (bs.size = rb.size) := hbz
    clear hbz
    go_wp2_with fail
    rename_i K4 hK4
    refine wp_region_X 17 (fun W1 => W1.cell? ⟨w.heap.size + 3, 1, none⟩ = some (.string rf.b)) (by kernel_rfl) (cell_at hE3 rfl) (fun hH => ?_)
    refine wpZ 0 hH ?_
    refine wpZ 1 hH ?_
    refine wpZ 2 hH ?_
    refine wpZ 3 hH ?_
    refine wpZ 4 hH ?_
    refine wpZ 5 hH ?_
    refine wpZ 6 hH ?_
    refine wpZ 7 hH ?_
    refine wpZ 8 hH ?_
    have cSc := pscript_any (bs.extract r0 (r1 + k)) (rf.b.extract p0 (p1 + k)) wE.drew (by have := ByteArray.size_extract (a := bs) (b := r0) (e := r1 + k); have := HBZ.out; omega) (by have := ByteArray.size_extract (a := rf.b) (b := p0) (e := p1 + k); omega) (tabOnM HTB.out ⟨hbE.os, hbE.tape, hbE.output, hbE.size, hbE.block⟩)
    have HER : Hid (scE (bs.extract r0 (r1 + k)).data.toList (rf.b.extract p0 (p1 + k)).data.toList = fnE k rb rf.b false r0 p0 r1 p1) := by show _ = fnE _ _ _ _ _ _ _ _; unfold fnE; rw [HBS.out]
    obtain ⟨la, hla⟩ : ∃ la, la = (bs.extract r0 (r1 + k)).data.toList := ⟨_, rfl⟩
    obtain ⟨lb, hlb⟩ : ∃ lb, lb = (rf.b.extract p0 (p1 + k)).data.toList := ⟨_, rfl⟩
    rw [← hla, ← hlb] at cSc HER
    have HLA : Hid (la = ((bsOf false rb).extract r0 (r1 + k)).data.toList) := by show _ = _; rw [HBS.out]; exact hla
    have HLB : Hid (lb = (rf.b.extract p0 (p1 + k)).data.toList) := hlb
    clear hla hlb
    obtain ⟨se, hse⟩ : ∃ se, se = scE la lb := ⟨_, rfl⟩
    obtain ⟨sn, hsn⟩ : ∃ sn, sn = scN la lb := ⟨_, rfl⟩
    obtain ⟨stx, hstx⟩ : ∃ stx : ByteArray, stx = ⟨(scT la lb).toArray⟩ := ⟨_, rfl⟩
    rw [← hse, ← hsn, ← hstx] at cSc
    rw [← hse] at HER
    have HSE : Hid (se = scE la lb) := hse
    have HSN : Hid (sn = scN la lb) := hsn
    have HST : Hid (stx = ⟨(scT la lb).toArray⟩) := hstx
    clear hse hsn hstx
    refine wpAnyX_step (i := 9) (by kernel_rfl) rfl (by kernel_rfl) (fun K hK => ?_)
    go_simp
    go_at_call 62
    refine cSc.mono ?_
    rintro e wF ⟨rfl, hbF0⟩
    have hEF : ∀ j, j < w.heap.size + 4 → wF.heap[j]? = wE.heap[j]? := fun j hj => hbF0.block j (by show j < wE.heap.size; omega)
    have hbF : Below w.heap.size w wF := hbE.trans ((show Below wE.heap.size wE wF from ⟨hbF0.os, hbF0.tape, hbF0.output, hbF0.size, hbF0.block⟩).mono (by omega))
    have hsF : w.heap.size + 4 ≤ wF.heap.size := by have := hbF0.size; have h2 : wE.drew.heap.size = wE.heap.size := rfl; omega
    have hH : wF.cell? ⟨w.heap.size + 3, 1, none⟩ = some (.string rf.b) := cell_at ((hEF _ (by omega)).trans hE3) rfl
    refine hK.out _ _ hH ?_
    clear hK K hbF0 cSc
    try simp only [Act.put, zA0, zZ0, zS0]
    refine wpZ 10 hH ?_
    refine wpZ 11 hH ?_
    refine wpZ 12 hH ?_
    refine wpZ 13 hH ?_
    refine wpZ 14 hH ?_
    refine wpZ 15 hH ?_
    refine wpZ 16 hH ?_
    refine wpAnyX_done (by kernel_rfl) ?_
    refine hK4 _ _ ?_
    clear hK4 hH i1 i2 i3 i4 i7 i8 t1 t2
    have hF3 := (hEF (w.heap.size + 3) (by omega)).trans hE3
    have hF1 := (hEF (w.heap.size + 1) (by omega)).trans hE1
    have hF0 := (hEF w.heap.size (by omega)).trans hE0
    have hF2 := (hEF (w.heap.size + 1 + 1) (by omega)).trans hE2
    clear hEF hE0 hE1 hE2 hE3 hbE hsE
    have vz : ∀ off, wF.frozen? ⟨w.heap.size + 1 + 1, off, none⟩ = false := fun off => frozen_of_row _ _ _ _ _ hF2
    have q1 : wF.cell? ⟨w.heap.size + 1, 1, none⟩ = some (.bool false) := cell_at hF1 rfl
    by_cases hz : se = 0
    · subst hz
      have hok : scE la lb = 0 := HSE.out.symm
      obtain ⟨o1, o2, o3, o4⟩ := scRs_ok la lb hok
      obtain ⟨l1, l2, l3, l4, l5⟩ := scLn_ok la lb hok
      have hlal : 0 < la.length := by
        rw [HLA.out]
        have := ByteArray.size_extract (a := bsOf false rb) (b := r0) (e := r1 + k)
        have e1 : ((bsOf false rb).extract r0 (r1 + k)).data.toList.length = ((bsOf false rb).extract r0 (r1 + k)).size := Array.length_toList
        have := bsOf_size false rb
        omega
      obtain ⟨ln, hln⟩ : ∃ ln, ln = scLn la lb := ⟨_, rfl⟩
      have hsl : sn ≤ ln := by rw [hln, HSN.out]; exact l3
      have hl0 : 0 < ln := by omega
      have hl9 : ln ≤ 900 := by omega
      have p50 : (1048576 : Nat) ≤ 2 ^ 50 := by decide
      have fs : floatOfInt .f64 (sn : Int) = fq (4 * (sn : Int)) := ofInt_fq sn (by omega)
      have fl : floatOfInt .f64 (ln : Int) = fq (4 * (ln : Int)) := ofInt_fq ln (by omega)
      have hdv : ∀ W1 t, (binOp .quo t (.float .f64 (fq (4 * (sn : Int)))) (.float .f64 (fq (4 * (ln : Int))))).run Tryz.prog W1 = .ok (.float .f64 (shr sn ln)) W1 := fun W1 t => run_float_arith W1 .quo t .f64 _ _ _ (shr_facts sn ln hsl hl0 (by omega)).1
      have cQ := fun W1 => quality_any sq oq W1 HPO.out.1.1 HPO.out.1.2 HPO.out.2.1 HPO.out.2.2
      have hstx : stx = ⟨(rtxt (scRs la lb)).toArray⟩ := by rw [HST.out, o1]
      have cL : ∀ W1, LtP W1 → Calls Tryz.prog 65 #[.string stx] W1 fun e w' => e = .returned (.int .i64 (ln : Nat)) ∧ Below W1.heap.size W1 w' := by
        intro W1 hW1
        rw [hstx, hln, ← scRs_sum la lb]
        exact pletters_any (scRs la lb) o2 o3 o4 W1 hW1
      have cC := fun W1 => sclone_any rf.n W1 hfn.1 hfn.2
      obtain ⟨dv, hdve⟩ : ∃ dv, dv = shr sn ln := ⟨_, rfl⟩
      rw [← hdve] at hdv
      have HDV : Hid (dv = shr (scN la lb) (scLn la lb)) := by show _ = _; rw [hdve, HSN.out, hln]
      obtain ⟨qv, hqv⟩ : ∃ qv, qv = qual sq oq := ⟨_, rfl⟩
      rw [← hqv] at cQ
      have HQV : Hid (qv = qual sq oq) := hqv
      obtain ⟨fsq, hfsq⟩ : ∃ f, f = fq sq := ⟨_, rfl⟩
      obtain ⟨foq, hfoq⟩ : ∃ f, f = fq oq := ⟨_, rfl⟩
      rw [← hfsq, ← hfoq] at cQ
      rw [← hfsq] at hF1
      have HFS : Hid (fsq = fq sq) := hfsq
      have HFO : Hid (foq = fq oq) := hfoq
      rw [← hfsq, ← hfoq]
      clear hfsq hfoq hqv hdve hstx hln o1 o2 o3 o4 l1 l2 l3 l4 l5 hok hlal
      go_wp2_with fail
      rename_i K5 hK5
      have g12 : ∀ W1 : World, (∀ j, j < w.heap.size + 4 → j ≠ w.heap.size + 1 + 1 → W1.heap[j]? = wF.heap[j]?) → W1.cell? ⟨w.heap.size, 0, none⟩ = some (.string rn) ∧ W1.cell? ⟨w.heap.size + 1, 1, none⟩ = some (.bool false) ∧ W1.cell? ⟨w.heap.size + 3, 0, none⟩ = some (.string rf.n) ∧ W1.cell? ⟨w.heap.size + 1, 3, none⟩ = some (.float .f64 fsq) := by
        intro W1 hW
        exact ⟨cell_at ((hW _ (by omega) (by omega)).trans hF0) rfl, cell_at ((hW _ (by omega) (by omega)).trans hF1) rfl, cell_at ((hW _ (by omega) (by omega)).trans hF3) rfl, cell_at ((hW _ (by omega) (by omega)).trans hF1) rfl⟩
      refine wp_region_X 30 (fun W1 => W1.cell? ⟨w.heap.size, 0, none⟩ = some (.string rn) ∧ W1.cell? ⟨w.heap.size + 1, 1, none⟩ = some (.bool false) ∧ W1.cell? ⟨w.heap.size + 3, 0, none⟩ = some (.string rf.n) ∧ W1.cell? ⟨w.heap.size + 1, 3, none⟩ = some (.float .f64 fsq)) (by kernel_rfl) (g12 wF.drew (fun _ _ _ => rfl)) (fun hH => ?_)
      refine wpZ 0 hH ?_
      refine wpZ 1 hH ?_
      refine wpZ 2 hH ?_
      refine wpZ 3 hH ?_
      refine wpZ 4 hH ?_
      refine wpZ 5 hH ?_
      refine wpZ 6 hH ?_
      refine wpZ 7 hH ?_
      refine wpZ 8 hH ?_
      refine wpZ 10 hH ?_
      refine wpZ 11 hH ?_
      refine wpZ 12 hH ?_
      refine wpZ 13 hH ?_
      refine wpZ 14 hH ?_
      refine wpZ 15 hH ?_
      refine wpZ 16 hH ?_
      refine wpZ 17 hH ?_
      refine wpZ 19 hH ?_
      refine wpZ 20 hH ?_
      refine wpZ 21 hH ?_
      refine wpZ 22 hH ?_
      refine wpZ 23 hH ?_
      refine wpAnyX_step (i := 9) (by kernel_rfl) rfl (by kernel_rfl) (fun K hK => ?_)
      go_simp
      go_at_call 63
      refine (cC _).mono ?_
      rintro e wG ⟨rfl, hbG⟩
      have hFG : ∀ j, j < w.heap.size + 4 → wG.heap[j]? = wF.heap[j]? := fun j hj => hbG.block j (by show j < wF.heap.size; omega)
      have hbG2 : Below w.heap.size w wG := hbF.trans ((show Below wF.heap.size wF wG from ⟨hbG.os, hbG.tape, hbG.output, hbG.size, hbG.block⟩).mono (by omega))
      have hsG : w.heap.size + 4 ≤ wG.heap.size := by have := hbG.size; have h2 : wF.drew.heap.size = wF.heap.size := rfl; omega
      have hH := g12 wG (fun j hj _ => hFG j hj)
      refine hK.out _ _ hH ?_
      clear hK K hbG cC
      try simp only [Act.put, zA0, zZ0, zS0]
      refine wpAnyX_step (i := 18) (by kernel_rfl) rfl (by kernel_rfl) (fun K hK => ?_)
      go_simp
      go_at_call 64
      refine (cQ _).mono ?_
      rintro e wG' ⟨rfl, rfl⟩
      refine hK.out _ _ hH ?_
      clear hK K cQ
      try simp only [Act.put, zA0, zZ0, zS0]
      refine wpAnyX_step (i := 24) (by kernel_rfl) rfl (by kernel_rfl) (fun K hK => ?_)
      go_simp
      go_at_call 65
      refine (cL _ (HLT.out.below hbG2)).mono ?_
      rintro e wI ⟨rfl, hbI⟩
      have hGI : ∀ j, j < w.heap.size + 4 → wI.heap[j]? = wF.heap[j]? := fun j hj => (hbI.block j (by omega)).trans (hFG j hj)
      have hbI2 : Below w.heap.size w wI := hbG2.trans (hbI.mono (by omega))
      have hH := g12 wI (fun j hj _ => hGI j hj)
      refine hK.out _ _ hH ?_
      clear hK K cL hbI
      try simp only [Act.put, zA0, zZ0, zS0]
      refine wpZ 25 hH ?_
      refine wpZ 26 hH ?_
      refine wpZ 27 hH ?_
      have hI2 := (hGI (w.heap.size + 1 + 1) (by omega)).trans hF2
      have vI : ∀ off, wI.frozen? ⟨w.heap.size + 1 + 1, off, none⟩ = false := fun off => frozen_of_row _ _ _ _ _ hI2
      have v0 := cell_at hI2 (i := 0) rfl
      have v1 := cell_at hI2 (i := 1) rfl
      have v2 := cell_at hI2 (i := 2) rfl
      have v3 := cell_at hI2 (i := 3) rfl
      have v4 := cell_at hI2 (i := 4) rfl
      have v5 := cell_at hI2 (i := 5) rfl
      have v6 := cell_at hI2 (i := 6) rfl
      have v7 := cell_at hI2 (i := 7) rfl
      have v8 := cell_at hI2 (i := 8) rfl
      have v9 := cell_at hI2 (i := 9) rfl
      have v10 := cell_at hI2 (i := 10) rfl
      have v11 := cell_at hI2 (i := 11) rfl
      have v12 := cell_at hI2 (i := 12) rfl
      refine wpAnyX_step (i := 28) (by kernel_rfl) rfl (by kernel_rfl) (fun K hK => ?_)
      go_simp
      have U12 := upd13 (.string rn) (.int .i64 (r0)) (.int .i64 ((r1 : Int) + k)) (.bool false) (.string rf.n) (.int .i64 p0) (.int .i64 ((p1 : Int) + k)) (.float .f64 fsq) (.float .f64 foq) (.int .i64 qv) (.string stx) (.int .i64 sn) (.float .f64 dv) hI2
      refine hK.out _ _ (g12 _ (fun j hj hne => (U12.other j hne).trans (hGI j hj))) ?_
      clear hK K hH
      have hH := g12 _ (fun j hj hne => (U12.other j hne).trans (hGI j hj))
      try simp only [Act.put, zA0, zZ0, zS0]
      refine wpZ 29 hH ?_
      refine wpAnyX_done (by kernel_rfl) ?_
      refine hK5 _ _ ?_
      clear hK5 hH
      go_wp2_with fail
      refine bodyPost_ret (results_ct rfl _ _ (w.heap.size + 1 + 1) 46 _ _ _ rfl U12.here Tryz.underlying46 rfl (by kernel_rfl)) rfl ?_
      refine ⟨?_, hbI2.trans (U12.below (by omega))⟩
      rw [if_pos HER.out.symm]
      show Ending.returned (.tuple #[.agg (List.toArray [.string rn, .int .i64 (r0), .int .i64 ((r1 : Int) + k), .bool false, .string rf.n, .int .i64 p0, .int .i64 ((p1 : Int) + k), .float .f64 fsq, .float .f64 foq, .int .i64 qv, .string stx, .int .i64 sn, .float .f64 dv]), .bool true]) = _
      rw [fd_f k rn rb rf.n rf.b r0 p0 r1 p1 sq oq la lb HLA.out HLB.out]
      have hHF := HFS.out
      have hHO := HFO.out
      have hHQ := HQV.out
      have hHT := HST.out
      have hHD := HDV.out
      have hHN := HSN.out
      have hHZ := HBZ.out
      clear HFS HFO HQV HST HDV HSN HBZ HLA HLB HBS HER HSE U12 v0 v1 v2 v3 v4 v5 v6 v7 v8 v9 v10 v11 v12 vI hI2 hdv fs fl g12 hGI hFG
      rw [hHF, hHO, hHQ, hHT, hHD, hHN]
    · have hzI : ¬ (se : Int) = 0 := by omega
      have v0 := cell_at hF2 (i := 0) rfl
      have v1 := cell_at hF2 (i := 1) rfl
      have v2 := cell_at hF2 (i := 2) rfl
      have v3 := cell_at hF2 (i := 3) rfl
      have v4 := cell_at hF2 (i := 4) rfl
      have v5 := cell_at hF2 (i := 5) rfl
      have v6 := cell_at hF2 (i := 6) rfl
      have v7 := cell_at hF2 (i := 7) rfl
      have v8 := cell_at hF2 (i := 8) rfl
      have v9 := cell_at hF2 (i := 9) rfl
      have v10 := cell_at hF2 (i := 10) rfl
      have v11 := cell_at hF2 (i := 11) rfl
      have v12 := cell_at hF2 (i := 12) rfl
      go_wp2_with fail
      have U12 := upd13 (.string ⟨#[]⟩) (.int .i64 0) (.int .i64 0) (.bool false) (.string ⟨#[]⟩) (.int .i64 0) (.int .i64 0) (.float .f64 0) (.float .f64 0) (.int .i64 0) (.string ⟨#[]⟩) (.int .i64 0) (.float .f64 0) hF2
      refine bodyPost_ret (results_ct rfl _ _ (w.heap.size + 1 + 1) 46 _ _ _ rfl U12.here Tryz.underlying46 rfl (by kernel_rfl)) rfl ?_
      refine ⟨?_, hbF.trans (U12.below (by omega))⟩
      rw [if_neg (by rw [← HER.out]; exact hz)]
      rfl
  refine wp_region_X 15 (fun W1 => W1.cell? ⟨w.heap.size + 1, 2, none⟩ = some (.slice (some ⟨g, o, none⟩) m cp) ∧ W1.cell? ⟨g, o, none⟩ = some (.int .i64 r0) ∧ W1.cell? ⟨g, o + 1, none⟩ = some (.int .i64 p0) ∧ W1.cell? ⟨g, o + (m - 1) * 2, none⟩ = some (.int .i64 r1) ∧ W1.cell? ⟨g, o + (m - 1) * 2 + 1, none⟩ = some (.int .i64 p1)) (by kernel_rfl) (g4 wC.drew (fun _ _ => rfl)) (fun hH => ?_)
  refine wpZ 0 hH ?_
  refine wpZ 1 hH ?_
  refine wpZ 2 hH ?_
  refine wpZ 3 hH ?_
  refine wpZ 4 hH ?_
  refine wpZ 5 hH ?_
  refine wpZ 6 hH ?_
  refine wpZ 7 hH ?_
  refine wpZ 8 hH ?_
  refine wpZ 9 hH ?_
  refine wpZ 10 hH ?_
  refine wpZ 11 hH ?_
  have hx4 : ∀ (ob : Obj) j, j < wC.heap.size → (wC.drew.alloc ob).heap[j]? = wC.heap[j]? := fun ob j hj => Below.heap_alloc wC.drew ob j hj
  have hx5 : ∀ (ob oc : Obj) j, j < wC.heap.size → ((wC.drew.alloc ob).alloc oc).heap[j]? = wC.heap[j]? := fun ob oc j hj => (Below.heap_alloc _ oc j (by simp; show j < wC.heap.size + 1; omega)).trans (hx4 ob j hj)
  have hx6 : ∀ (ob oc : Obj) j, j < wC.heap.size → ((wC.alloc ob).alloc oc).drew.heap[j]? = wC.heap[j]? := fun ob oc j hj => (Below.heap_alloc _ oc j (by simp; omega)).trans (Below.heap_alloc wC ob j hj)
  refine wpAnyX_two (i := 12) (j := 13) (by kernel_rfl) rfl rfl (by kernel_rfl) (by kernel_rfl) (fun K hK => ?_) (fun K hK => ?_)
  · go_simp
    refine hK.out _ _ (g4 _ (hx4 _)) ?_
    clear hK K hH
    try simp only [Act.put, zA0, zZ0, zS0]
    refine wpAnyX_step (i := 13) (by kernel_rfl) rfl (by kernel_rfl) (fun K hK => ?_)
    go_simp
    refine hK.out _ _ (g4 _ (hx5 _ _)) ?_
    clear hK K
    try simp only [Act.put, zA0, zZ0, zS0]
    refine wpAnyX_step (i := 14) (by kernel_rfl) rfl (by kernel_rfl) (fun K hK => ?_)
    go_simp
    refine hK.out _ _ (g4 _ (hx6 _ _)) ?_
    clear hK K
    try simp only [Act.put, zA0, zZ0, zS0]
    refine wpAnyX_last (i := 15) (by kernel_rfl) rfl (by kernel_rfl) (by kernel_rfl) (fun K hK => ?_)
    go_simp
    refine hK.out _ _ ?_
    clear hK K
    obtain ⟨wD, hwD⟩ : ∃ W1 : World, W1 = ((wC.alloc (Obj.cells #[Value.int IntKind.i64 ↑r0, Value.int IntKind.i64 ↑p0] 140)).alloc (Obj.cells #[Value.int IntKind.i64 ↑r1, Value.int IntKind.i64 ↑p1] 140)).drew := ⟨_, rfl⟩
    have hDC : ∀ j, j < wC.heap.size → wD.heap[j]? = wC.heap[j]? := fun j hj => by rw [hwD]; exact (Below.heap_alloc _ _ j (by simp; omega)).trans (Below.heap_alloc wC _ j hj)
    have hD0 : wD.heap[wC.heap.size]? = some (.cells #[Value.int IntKind.i64 ↑r0, Value.int IntKind.i64 ↑p0] 140 (0, 0)) := by rw [hwD]; exact (Below.heap_alloc _ _ _ (by simp)).trans (heap_alloc_new wC _)
    have hD1 : wD.heap[wC.heap.size + 1]? = some (.cells #[Value.int IntKind.i64 ↑r1, Value.int IntKind.i64 ↑p1] 140 (0, 0)) := by
      have := heap_alloc_new (wC.alloc (Obj.cells #[Value.int IntKind.i64 ↑r0, Value.int IntKind.i64 ↑p0] 140)) (Obj.cells #[Value.int IntKind.i64 ↑r1, Value.int IntKind.i64 ↑p1] 140)
      have e1 : (wC.alloc (Obj.cells #[Value.int IntKind.i64 ↑r0, Value.int IntKind.i64 ↑p0] 140)).heap.size = wC.heap.size + 1 := by simp
      rw [e1] at this
      rw [hwD]; exact this
    have hsD : wD.heap.size = wC.heap.size + 2 := by rw [hwD]; show ((wC.alloc _).alloc _).heap.size = _; simp
    have hbD : Below w.heap.size w wD := by
      refine ⟨?_, ?_, ?_, by omega, fun j hj => (hDC j (by omega)).trans (hbB0.block j hj)⟩
      · rw [hwD]; exact hbB0.os
      · rw [hwD]; exact hbB0.tape
      · rw [hwD]; exact hbB0.output
    have h1 := tail wC.heap.size (wC.heap.size + 1) wD hDC hD0 hD1 (by omega) hbD
    rw [hwD] at h1
    exact h1
  · go_simp
    refine hK.out _ _ (g4 _ (hx4 _)) ?_
    clear hK K hH
    try simp only [Act.put, zA0, zZ0, zS0]
    refine wpAnyX_step (i := 12) (by kernel_rfl) rfl (by kernel_rfl) (fun K hK => ?_)
    go_simp
    refine hK.out _ _ (g4 _ (hx5 _ _)) ?_
    clear hK K
    try simp only [Act.put, zA0, zZ0, zS0]
    refine wpAnyX_step (i := 14) (by kernel_rfl) rfl (by kernel_rfl) (fun K hK => ?_)
    go_simp
    refine hK.out _ _ (g4 _ (hx6 _ _)) ?_
    clear hK K
    try simp only [Act.put, zA0, zZ0, zS0]
    refine wpAnyX_last (i := 15) (by kernel_rfl) rfl (by kernel_rfl) (by kernel_rfl) (fun K hK => ?_)
    go_simp
    refine hK.out _ _ ?_
    clear hK K
    obtain ⟨wD, hwD⟩ : ∃ W1 : World, W1 = ((wC.alloc (Obj.cells #[Value.int IntKind.i64 ↑r1, Value.int IntKind.i64 ↑p1] 140)).alloc (Obj.cells #[Value.int IntKind.i64 ↑r0, Value.int IntKind.i64 ↑p0] 140)).drew := ⟨_, rfl⟩
    have hDC : ∀ j, j < wC.heap.size → wD.heap[j]? = wC.heap[j]? := fun j hj => by rw [hwD]; exact (Below.heap_alloc _ _ j (by simp; omega)).trans (Below.heap_alloc wC _ j hj)
    have hD0 : wD.heap[wC.heap.size]? = some (.cells #[Value.int IntKind.i64 ↑r1, Value.int IntKind.i64 ↑p1] 140 (0, 0)) := by rw [hwD]; exact (Below.heap_alloc _ _ _ (by simp)).trans (heap_alloc_new wC _)
    have hD1 : wD.heap[wC.heap.size + 1]? = some (.cells #[Value.int IntKind.i64 ↑r0, Value.int IntKind.i64 ↑p0] 140 (0, 0)) := by
      have := heap_alloc_new (wC.alloc (Obj.cells #[Value.int IntKind.i64 ↑r1, Value.int IntKind.i64 ↑p1] 140)) (Obj.cells #[Value.int IntKind.i64 ↑r0, Value.int IntKind.i64 ↑p0] 140)
      have e1 : (wC.alloc (Obj.cells #[Value.int IntKind.i64 ↑r1, Value.int IntKind.i64 ↑p1] 140)).heap.size = wC.heap.size + 1 := by simp
      rw [e1] at this
      rw [hwD]; exact this
    have hsD : wD.heap.size = wC.heap.size + 2 := by rw [hwD]; show ((wC.alloc _).alloc _).heap.size = _; simp
    have hbD : Below w.heap.size w wD := by
      refine ⟨?_, ?_, ?_, by omega, fun j hj => (hDC j (by omega)).trans (hbB0.block j hj)⟩
      · rw [hwD]; exact hbB0.os
      · rw [hwD]; exact hbB0.tape
      · rw [hwD]; exact hbB0.output
    have h1 := tail (wC.heap.size + 1) wC.heap.size wD hDC hD1 hD0 (by omega) hbD
    rw [hwD] at h1
    exact h1
end Go.Proofs.YtilcmkiihefkkabGreatDoor.Mn
end
