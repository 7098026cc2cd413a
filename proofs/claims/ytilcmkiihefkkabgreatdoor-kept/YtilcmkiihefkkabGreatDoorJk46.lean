import Derived.Test.YtilcmkiihefkkabGreatDoorJk43
import Derived.Test.YtilcmkiihefkkabGreatDoorJk44
import Derived.Test.YtilcmkiihefkkabGreatDoorJk45
section
set_option linter.unusedVariables false
set_option linter.unusedSimpArgs false
set_option maxRecDepth 100000
namespace Go.Proofs.YtilcmkiihefkkabGreatDoor.Mn
open Go.RowKit Go.Shelf Go.Lib
attribute [local go_sem] run_store_flt
theorem found_any (back : Bool) (R : List S2) (X k W sc base base2 g o cp m i r0 p0 r1 p1 : Nat) (rv mv : Value) (rn rb : ByteArray) (Ch : List (Int × Int)) (sq oq : Int) (w : World)
    (hX : w.heap[X]? = some (.cells (ixC k W sc rv mv) 59 (0, 0))) (hR : OwnR w base 62 2 rv R.length (qcells R)) (hi : i < R.length) (hC : OwnR w base2 140 2 (.slice (some ⟨g, o, none⟩) m cp) m (acells Ch)) (hm : Ch.length = m) (hm0 : 0 < m) (hm4 : m ≤ 400)
    (hc0 : Ch.getD 0 (0, 0) = ((r0 : Int), (p0 : Int))) (hc1 : Ch.getD (m - 1) (0, 0) = ((r1 : Int), (p1 : Int))) (hk : k ≤ 12) (hr1 : r0 < r1 + k) (hr2 : r1 + k ≤ rb.size) (hp1 : p0 ≤ p1 + k) (hp2 : p1 + k ≤ (R.getD i S0).b.size) (hrb : rb.size ≤ 100000) (hfb : (R.getD i S0).b.size ≤ 100000)
    (ho1 : 0 ≤ oq) (ho2 : oq ≤ sq) (ho3 : 0 < sq) (ho4 : sq ≤ 100000) (hg : good rb) (hfn : 1 ≤ (R.getD i S0).n.size ∧ (R.getD i S0).n.size ≤ 8000) (hR4 : R.length < 100000)
    (htab : Lib.TabBelow Tryz.prog w.heap.size w "internal/strconv.uint64pow10" .u64 Lib.pow10Tab) (hLt : LtP w) :
    Calls Tryz.prog 46 #[.pointer (some ⟨X, 0, none⟩), .agg #[.string rn, .string rb], .agg #[.int .i64 i, .bool back, .slice (some ⟨g, o, none⟩) m cp, .float .f64 (fq sq)], .float .f64 (fq oq)] w fun e w' =>
      FnP k rn rb (R.getD i S0).n (R.getD i S0).b back r0 p0 r1 p1 sq oq w e w' := by
  cases back
  · exact found_f R X k W sc base base2 g o cp m i r0 p0 r1 p1 rv mv rn rb Ch sq oq w hX hR hi hC hm hm0 hm4 hc0 hc1 hk hr1 hr2 hp1 hp2 hrb hfb ho1 ho2 ho3 ho4 hg hfn hR4 htab hLt
  · exact found_t R X k W sc base base2 g o cp m i r0 p0 r1 p1 rv mv rn rb Ch sq oq w hX hR hi hC hm hm0 hm4 hc0 hc1 hk hr1 hr2 hp1 hp2 hrb hfb ho1 ho2 ho3 ho4 hg hfn hR4 htab hLt
set_option maxHeartbeats 8000000 in
theorem find_long (R : List S2) (X k W sc : Nat) (rn rb : ByteArray) (w : World) (h : 300 < rb.size) (h2 : rb.size ≤ 140737488351232) :
    Calls Tryz.prog 28 #[.pointer (some ⟨X, 0, none⟩), .agg #[.string rn, .string rb]] w fun e w' => FiP R k W sc rn rb w e w' := by
  have hI : (300 : Int) < rb.size := by omega
  go_enter Tryz.func28, Tryz.ntmps28
  go_wp2_with fail
  have hn : ((w.alloc (Obj.cells #[Value.string rn, Value.string rb] 62)).alloc (Obj.cells #[Value.string { data := #[] }, Value.int IntKind.i64 0, Value.int IntKind.i64 0, Value.bool false, Value.string { data := #[] }, Value.int IntKind.i64 0, Value.int IntKind.i64 0, Value.float FloatKind.f64 0, Value.float FloatKind.f64 0, Value.int IntKind.i64 0, Value.string { data := #[] }, Value.int IntKind.i64 0, Value.float FloatKind.f64 0] 46)).heap[w.heap.size + 1]? = some (Obj.cells #[Value.string { data := #[] }, Value.int IntKind.i64 0, Value.int IntKind.i64 0, Value.bool false, Value.string { data := #[] }, Value.int IntKind.i64 0, Value.int IntKind.i64 0, Value.float FloatKind.f64 0, Value.float FloatKind.f64 0, Value.int IntKind.i64 0, Value.string { data := #[] }, Value.int IntKind.i64 0, Value.float FloatKind.f64 0] 46 (0, 0)) := heap_alloc2_new w _ _
  refine bodyPost_ret (results_ct rfl _ _ (w.heap.size + 1) 46 _ _ _ rfl hn Tryz.underlying46 rfl (by kernel_rfl)) rfl ?_
  exact ⟨none, Or.inl ⟨h, rfl⟩, rfl, ((Below.refl _ _).alloc (Nat.le_refl _) _).alloc (by simp) _⟩
set_option maxHeartbeats 8000000 in
theorem find_short (R : List S2) (base X k W sc : Nat) (rn rb : ByteArray) (w : World) (hk1 : 1 ≤ k) (hk2 : k ≤ 12) (hW : 1 ≤ W) (hW2 : W ≤ 20) (hR : ∀ x ∈ R, good x.b ∧ 1 ≤ x.n.size ∧ x.n.size ≤ 8000 ∧ x.b.size ≤ 4000) (hl : R.length < 100000) (hsum : sumN R R.length ≤ 4000) (hI : IxP w base X R k W sc) (h : rb.size ≤ 300) (hg : good rb)
    (htab : Lib.TabBelow Tryz.prog w.heap.size w "internal/strconv.uint64pow10" .u64 Lib.pow10Tab) (hLt : LtP w) :
    Calls Tryz.prog 28 #[.pointer (some ⟨X, 0, none⟩), .agg #[.string rn, .string rb]] w fun e w' => FiP R k W sc rn rb w e w' := by
  have hI0 : ¬ (300 : Int) < rb.size := by omega
  have HI : Hid (IxP w base X R k W sc) := hI
  obtain ⟨rv, Hb, V0, hX, hO, hT, _, _⟩ := hI
  have HX : Hid (w.heap[X]? = some (.cells (ixC k W sc rv (.map (some Hb))) 59 (0, 0))) := hX
  have hXl : X < w.heap.size := lt_of_block hX
  have HO : Hid (OwnR w base 62 2 rv R.length (qcells R)) := hO
  have HR : Hid (∀ x ∈ R, good x.b ∧ 1 ≤ x.n.size ∧ x.n.size ≤ 8000 ∧ x.b.size ≤ 4000) := hR
  have HTB : Hid (Lib.TabBelow Tryz.prog w.heap.size w "internal/strconv.uint64pow10" .u64 Lib.pow10Tab) := htab
  have HLT : Hid (LtP w) := hLt
  have HGD : Hid (good rb) := hg
  have cA := fun W1 hW1 => anchors_any R base X k W sc rb W1 hk1 hk2 hW hW2 (fun x hx => (hR x hx).1) hl hsum hW1 (by omega) hg
  clear hX hO hT hR htab hLt hg
  go_enter Tryz.func28, Tryz.ntmps28
  go_wp2_with fail
  rename_i Q0 K0 hK0
  obtain ⟨wA, hwA⟩ : ∃ W1 : World, W1 = (w.alloc (Obj.cells #[Value.string rn, Value.string rb] 62)).alloc (Obj.cells #[Value.string { data := #[] }, Value.int IntKind.i64 0, Value.int IntKind.i64 0, Value.bool false, Value.string { data := #[] }, Value.int IntKind.i64 0, Value.int IntKind.i64 0, Value.float FloatKind.f64 0, Value.float FloatKind.f64 0, Value.int IntKind.i64 0, Value.string { data := #[] }, Value.int IntKind.i64 0, Value.float FloatKind.f64 0] 46) := ⟨_, rfl⟩
  rw [← hwA]
  have hbA : Below w.heap.size w wA := by rw [hwA]; exact ((Below.refl _ _).alloc (Nat.le_refl _) _).alloc (by simp) _
  have hA0 : wA.heap[w.heap.size]? = some (.cells #[Value.string rn, Value.string rb] 62 (0, 0)) := by rw [hwA, Below.heap_alloc _ _ _ (by simp)]; exact heap_alloc_new w _
  have hA1 : wA.heap[w.heap.size + 1]? = some (.cells #[Value.string { data := #[] }, Value.int IntKind.i64 0, Value.int IntKind.i64 0, Value.bool false, Value.string { data := #[] }, Value.int IntKind.i64 0, Value.int IntKind.i64 0, Value.float FloatKind.f64 0, Value.float FloatKind.f64 0, Value.int IntKind.i64 0, Value.string { data := #[] }, Value.int IntKind.i64 0, Value.float FloatKind.f64 0] 46 (0, 0)) := by rw [hwA]; exact heap_alloc2_new w _ _
  have hsA : wA.heap.size = w.heap.size + 2 := by rw [hwA]; simp
  clear hwA
  have g3 : ∀ W1 : World, (∀ j, j < w.heap.size + 2 → W1.heap[j]? = wA.heap[j]?) → W1.cell? ⟨w.heap.size, 1, none⟩ = some (.string rb) ∧ W1.cell? ⟨X, 0, none⟩ = some (.int .i64 k) := by
    intro W1 hW1
    exact ⟨cell_at ((hW1 _ (by omega)).trans hA0) rfl, cell_at ((hW1 X (by omega)).trans ((hbA.block X hXl).trans HX.out)) rfl⟩
  refine wp_region_X 11 (fun W1 => W1.cell? ⟨w.heap.size, 1, none⟩ = some (.string rb) ∧ W1.cell? ⟨X, 0, none⟩ = some (.int .i64 k)) (by kernel_rfl) (g3 wA.drew (fun _ _ => rfl)) (fun hH => ?_)
  refine wpZ 0 hH ?_
  refine wpZ 1 hH ?_
  refine wpZ 2 hH ?_
  refine wpZ 4 hH ?_
  refine wpZ 5 hH ?_
  refine wpZ 6 hH ?_
  refine wpZ 7 hH ?_
  refine wpZ 8 hH ?_
  refine wpAnyX_step (i := 3) (by kernel_rfl) rfl (by kernel_rfl) (fun K hK => ?_)
  go_simp
  go_at_call 45
  refine (cA wA.drew (HI.out.kept (w' := wA.drew) (fun g hg => hbA.block g hg))).mono ?_
  rintro e w1 ⟨hb1, hr1⟩
  have hA1b : Below wA.heap.size wA w1 := ⟨hb1.os, hb1.tape, hb1.output, hb1.size, hb1.block⟩
  have hH := g3 w1 (fun j hj => hA1b.block j (by omega))
  rcases hr1 with ⟨hbig, rfl⟩ | ⟨hsm, Gb, V, n, rfl, hS, hn4, hGl, hGb⟩
  · refine hK.out _ _ hH ?_
    clear hK K
    try simp only [Act.put, zA0, zZ0, zS0]
    refine wpAnyX_step (i := 9) (by kernel_rfl) rfl (by kernel_rfl) (fun K hK => ?_)
    go_simp
    go_at_call 44
    refine (cands_nil _ _).mono ?_
    rintro e w2 ⟨ao, cp, rfl, hb2⟩
    have hA2b : Below wA.heap.size wA w2 := hA1b.trans (hb2.mono hA1b.size)
    have hH := g3 w2 (fun j hj => hA2b.block j (by omega))
    refine hK.out _ _ hH ?_
    clear hK K
    try simp only [Act.put, zA0, zZ0, zS0]
    refine wpZ 10 hH ?_
    refine wpAnyX_done (by kernel_rfl) ?_
    refine hK0 _ _ ?_
    clear hK0 hH
    have h21 := (hA2b.block (w.heap.size + 1) (by omega)).trans hA1
    have hbb : Below w.heap.size w w2 := hbA.trans (hA2b.mono (by omega))
    go_wp2_with fail
    rename_i K4 hK4
    refine wp_region_X 15 (fun _ => True) (by kernel_rfl) trivial (fun hH => ?_)
    refine wpZ 0 hH ?_
    refine wpZ 1 hH ?_
    refine wpZ 2 hH ?_
    refine wpZ 3 hH ?_
    refine wpAnyX_take (i := 4) (v := undef) rfl (by kernel_rfl) (by kernel_rfl) (by kernel_rfl) (by kernel_rfl) (fun _ _ _ h => h) (Or.inr ⟨by rfl, rfl⟩) hH ?_
    try simp only [Act.put, zA0, zZ0, zS0]
    refine wpAnyX_take (i := 5) (v := undef) rfl (by kernel_rfl) (by kernel_rfl) (by kernel_rfl) (by kernel_rfl) (fun _ _ _ h => h) (Or.inr ⟨by rfl, rfl⟩) hH ?_
    try simp only [Act.put, zA0, zZ0, zS0]
    refine wpAnyX_take (i := 6) (v := undef) rfl (by kernel_rfl) (by kernel_rfl) (by kernel_rfl) (by kernel_rfl) (fun _ _ _ h => h) (Or.inr ⟨by rfl, rfl⟩) hH ?_
    try simp only [Act.put, zA0, zZ0, zS0]
    refine wpAnyX_take (i := 7) (v := undef) rfl (by kernel_rfl) (by kernel_rfl) (by kernel_rfl) (by kernel_rfl) (fun _ _ _ h => h) (Or.inr ⟨by rfl, rfl⟩) hH ?_
    try simp only [Act.put, zA0, zZ0, zS0]
    refine wpAnyX_take (i := 8) (v := undef) rfl (by kernel_rfl) (by kernel_rfl) (by kernel_rfl) (by kernel_rfl) (fun _ _ _ h => h) (Or.inr ⟨by rfl, rfl⟩) hH ?_
    try simp only [Act.put, zA0, zZ0, zS0]
    refine wpAnyX_take (i := 9) (v := undef) rfl (by kernel_rfl) (by kernel_rfl) (by kernel_rfl) (by kernel_rfl) (fun _ _ _ h => h) (Or.inr ⟨by rfl, rfl⟩) hH ?_
    try simp only [Act.put, zA0, zZ0, zS0]
    refine wpAnyX_take (i := 10) (v := undef) rfl (by kernel_rfl) (by kernel_rfl) (by kernel_rfl) (by kernel_rfl) (fun _ _ _ h => h) (Or.inr ⟨by rfl, rfl⟩) hH ?_
    try simp only [Act.put, zA0, zZ0, zS0]
    refine wpAnyX_take (i := 11) (v := undef) rfl (by kernel_rfl) (by kernel_rfl) (by kernel_rfl) (by kernel_rfl) (fun _ _ _ h => h) (Or.inr ⟨by rfl, rfl⟩) hH ?_
    try simp only [Act.put, zA0, zZ0, zS0]
    refine wpAnyX_take (i := 12) (v := undef) rfl (by kernel_rfl) (by kernel_rfl) (by kernel_rfl) (by kernel_rfl) (fun _ _ _ h => h) (Or.inr ⟨by rfl, rfl⟩) hH ?_
    try simp only [Act.put, zA0, zZ0, zS0]
    refine wpAnyX_take (i := 13) (v := undef) rfl (by kernel_rfl) (by kernel_rfl) (by kernel_rfl) (by kernel_rfl) (fun _ _ _ h => h) (Or.inr ⟨by rfl, rfl⟩) hH ?_
    try simp only [Act.put, zA0, zZ0, zS0]
    refine wpZ 14 hH ?_
    refine wpAnyX_done (by kernel_rfl) ?_
    refine hK4 _ _ ?_
    clear hK4 hH
    have v0 := cell_at h21 (i := 0) rfl
    have v1 := cell_at h21 (i := 1) rfl
    have v2 := cell_at h21 (i := 2) rfl
    have v3 := cell_at h21 (i := 3) rfl
    have v4 := cell_at h21 (i := 4) rfl
    have v5 := cell_at h21 (i := 5) rfl
    have v6 := cell_at h21 (i := 6) rfl
    have v7 := cell_at h21 (i := 7) rfl
    have v8 := cell_at h21 (i := 8) rfl
    have v9 := cell_at h21 (i := 9) rfl
    have v10 := cell_at h21 (i := 10) rfl
    have v11 := cell_at h21 (i := 11) rfl
    have v12 := cell_at h21 (i := 12) rfl
    have vz : ∀ off, w2.frozen? ⟨w.heap.size + 1, off, none⟩ = false := fun off => frozen_of_row _ _ _ _ _ h21
    go_wp2_with fail
    have U12 := (upd13 (.string ⟨#[]⟩) (.int .i64 0) (.int .i64 0) (.bool false) (.string ⟨#[]⟩) (.int .i64 0) (.int .i64 0) (.float .f64 0) (.float .f64 0) (.int .i64 0) (.string ⟨#[]⟩) (.int .i64 0) (.float .f64 0) h21).drew
    refine bodyPost_ret (results_ct rfl _ _ (w.heap.size + 1) 46 _ _ _ rfl U12.here Tryz.underlying46 rfl (by kernel_rfl)) rfl ?_
    refine ⟨none, Or.inr (Or.inl ⟨h, hbig, rfl⟩), rfl, hbb.trans (U12.below (by omega))⟩
  · refine hK.out _ _ hH ?_
    clear hK K
    try simp only [Act.put, zA0, zZ0, zS0]
    refine wpAnyX_step (i := 9) (by kernel_rfl) rfl (by kernel_rfl) (fun K hK => ?_)
    go_simp
    go_at_call 44
    have HG0 : ∀ q, (gat k W R rb).2 q ≠ [] → 0 ≤ q.1 ∧ q.1 < 100000 := by
      intro q hq
      obtain ⟨a, ha⟩ := List.exists_mem_of_ne_nil _ hq
      have := (gat_mem k W R rb q a ha).bounds hk1 hk2 hW (fun x hx => (HR.out x hx).1) HGD.out
      omega
    refine (cands_some (gat k W R rb).2 V Gb _ n k w1 hS hn4 HG0 hGl).mono ?_
    rintro e w2 ⟨lv, Vc, C, rfl, hb2, hlo, hch, hpw, hmem, hC4⟩
    have hA2b : Below wA.heap.size wA w2 := hA1b.trans (hb2.mono hA1b.size)
    have hH := g3 w2 (fun j hj => hA2b.block j (by omega))
    refine hK.out _ _ hH ?_
    clear hK K
    try simp only [Act.put, zA0, zZ0, zS0]
    refine wpZ 10 hH ?_
    refine wpAnyX_done (by kernel_rfl) ?_
    refine hK0 _ _ ?_
    clear hK0 hH
    cases C with
    | nil =>
      obtain ⟨ao, cp, rfl⟩ := hlo.form
      have h21 := (hA2b.block (w.heap.size + 1) (by omega)).trans hA1
      have hbb : Below w.heap.size w w2 := hbA.trans (hA2b.mono (by omega))
      go_wp2_with fail
      rename_i K4 hK4
      refine wp_region_X 15 (fun _ => True) (by kernel_rfl) trivial (fun hH => ?_)
      refine wpZ 0 hH ?_
      refine wpZ 1 hH ?_
      refine wpZ 2 hH ?_
      refine wpZ 3 hH ?_
      refine wpAnyX_take (i := 4) (v := undef) rfl (by kernel_rfl) (by kernel_rfl) (by kernel_rfl) (by kernel_rfl) (fun _ _ _ h => h) (Or.inr ⟨by rfl, rfl⟩) hH ?_
      try simp only [Act.put, zA0, zZ0, zS0]
      refine wpAnyX_take (i := 5) (v := undef) rfl (by kernel_rfl) (by kernel_rfl) (by kernel_rfl) (by kernel_rfl) (fun _ _ _ h => h) (Or.inr ⟨by rfl, rfl⟩) hH ?_
      try simp only [Act.put, zA0, zZ0, zS0]
      refine wpAnyX_take (i := 6) (v := undef) rfl (by kernel_rfl) (by kernel_rfl) (by kernel_rfl) (by kernel_rfl) (fun _ _ _ h => h) (Or.inr ⟨by rfl, rfl⟩) hH ?_
      try simp only [Act.put, zA0, zZ0, zS0]
      refine wpAnyX_take (i := 7) (v := undef) rfl (by kernel_rfl) (by kernel_rfl) (by kernel_rfl) (by kernel_rfl) (fun _ _ _ h => h) (Or.inr ⟨by rfl, rfl⟩) hH ?_
      try simp only [Act.put, zA0, zZ0, zS0]
      refine wpAnyX_take (i := 8) (v := undef) rfl (by kernel_rfl) (by kernel_rfl) (by kernel_rfl) (by kernel_rfl) (fun _ _ _ h => h) (Or.inr ⟨by rfl, rfl⟩) hH ?_
      try simp only [Act.put, zA0, zZ0, zS0]
      refine wpAnyX_take (i := 9) (v := undef) rfl (by kernel_rfl) (by kernel_rfl) (by kernel_rfl) (by kernel_rfl) (fun _ _ _ h => h) (Or.inr ⟨by rfl, rfl⟩) hH ?_
      try simp only [Act.put, zA0, zZ0, zS0]
      refine wpAnyX_take (i := 10) (v := undef) rfl (by kernel_rfl) (by kernel_rfl) (by kernel_rfl) (by kernel_rfl) (fun _ _ _ h => h) (Or.inr ⟨by rfl, rfl⟩) hH ?_
      try simp only [Act.put, zA0, zZ0, zS0]
      refine wpAnyX_take (i := 11) (v := undef) rfl (by kernel_rfl) (by kernel_rfl) (by kernel_rfl) (by kernel_rfl) (fun _ _ _ h => h) (Or.inr ⟨by rfl, rfl⟩) hH ?_
      try simp only [Act.put, zA0, zZ0, zS0]
      refine wpAnyX_take (i := 12) (v := undef) rfl (by kernel_rfl) (by kernel_rfl) (by kernel_rfl) (by kernel_rfl) (fun _ _ _ h => h) (Or.inr ⟨by rfl, rfl⟩) hH ?_
      try simp only [Act.put, zA0, zZ0, zS0]
      refine wpAnyX_take (i := 13) (v := undef) rfl (by kernel_rfl) (by kernel_rfl) (by kernel_rfl) (by kernel_rfl) (fun _ _ _ h => h) (Or.inr ⟨by rfl, rfl⟩) hH ?_
      try simp only [Act.put, zA0, zZ0, zS0]
      refine wpZ 14 hH ?_
      refine wpAnyX_done (by kernel_rfl) ?_
      refine hK4 _ _ ?_
      clear hK4 hH
      have v0 := cell_at h21 (i := 0) rfl
      have v1 := cell_at h21 (i := 1) rfl
      have v2 := cell_at h21 (i := 2) rfl
      have v3 := cell_at h21 (i := 3) rfl
      have v4 := cell_at h21 (i := 4) rfl
      have v5 := cell_at h21 (i := 5) rfl
      have v6 := cell_at h21 (i := 6) rfl
      have v7 := cell_at h21 (i := 7) rfl
      have v8 := cell_at h21 (i := 8) rfl
      have v9 := cell_at h21 (i := 9) rfl
      have v10 := cell_at h21 (i := 10) rfl
      have v11 := cell_at h21 (i := 11) rfl
      have v12 := cell_at h21 (i := 12) rfl
      have vz : ∀ off, w2.frozen? ⟨w.heap.size + 1, off, none⟩ = false := fun off => frozen_of_row _ _ _ _ _ h21
      go_wp2_with fail
      have U12 := (upd13 (.string ⟨#[]⟩) (.int .i64 0) (.int .i64 0) (.bool false) (.string ⟨#[]⟩) (.int .i64 0) (.int .i64 0) (.float .f64 0) (.float .f64 0) (.int .i64 0) (.string ⟨#[]⟩) (.int .i64 0) (.float .f64 0) h21).drew
      refine bodyPost_ret (results_ct rfl _ _ (w.heap.size + 1) 46 _ _ _ rfl U12.here Tryz.underlying46 rfl (by kernel_rfl)) rfl ?_
      refine ⟨none, Or.inr (Or.inr ⟨h, hsm, [], ⟨hpw, hmem⟩, rfl⟩), rfl, hbb.trans (U12.below (by omega))⟩
    | cons a t =>
      obtain ⟨r0, p0, r1, p1, hF⟩ := cand_facts k W R rb (sd a) hk1 hk2 hW (fun x hx => ⟨(HR.out x hx).1, (HR.out x hx).2.2.2⟩) HGD.out h ((hmem a).1 (List.mem_cons_self)) (hGl _)
      have hh21 := (hA2b.block (w.heap.size + 1) (by omega)).trans hA1
      have h20 := (hA2b.block w.heap.size (by omega)).trans hA0
      have h2X := (hA2b.block X (by omega)).trans ((hbA.block X hXl).trans HX.out)
      have hbb : Below w.heap.size w w2 := hbA.trans (hA2b.mono (by omega))
      have hcha := hch a (List.mem_cons_self)
      have eM : ansM ((gat k W R rb).2 (sd a)) k = chL k ((gat k W R rb).2 (sd a)) := by unfold ansM; rw [if_pos hF.err]
      have eQ : ansQ ((gat k W R rb).2 (sd a)) k = chQ k ((gat k W R rb).2 (sd a)) := by unfold ansQ; rw [if_pos hF.err]
      rw [eM] at hcha
      obtain ⟨m, hm⟩ : ∃ m, m = (chL k ((gat k W R rb).2 (sd a))).length := ⟨_, rfl⟩
      have hm0 : 0 < m := by rw [hm]; exact hF.len
      have hm4 : m ≤ 400 := by rw [hm]; exact (chQ_bound _ _ hF.err).2.2
      rw [← hm] at hcha
      obtain ⟨gc, oc, cc, hvc⟩ : ∃ gc oc cc, Vc (sd a) = .slice (some ⟨gc, oc, none⟩) m cc := by
        rcases hcha.2 with ⟨_, h0⟩ | ⟨g', o', cap, cur, hv, _⟩
        · omega
        · exact ⟨g', o', cap, hv⟩
      rw [hvc] at hcha
      obtain ⟨sq, hsq⟩ : ∃ sq, sq = ansQ ((gat k W R rb).2 (sd a)) k := ⟨_, rfl⟩
      obtain ⟨oq, hoq⟩ : ∃ oq, oq = othQ (gat k W R rb).2 k (a :: t) := ⟨_, rfl⟩
      have hsq1 : 4 * (k : Int) ≤ sq ∧ sq ≤ 100000 := by rw [hsq, eQ]; exact ⟨hF.lo, hF.hi⟩
      have hoq1 : 0 ≤ oq ∧ oq ≤ sq := by
        rw [hoq, hsq]
        cases t with
        | nil => exact ⟨Int.le_refl _, (ansQ_bd _ _).1⟩
        | cons b t' =>
          refine ⟨(ansQ_bd _ _).1, ?_⟩
          have hab : ltC (fun q => ansQ ((gat k W R rb).2 q) k) a b := (List.pairwise_cons.1 hpw).1 b (List.mem_cons_self)
          unfold ltC at hab
          dsimp only at hab
          show ansQ ((gat k W R rb).2 (sd b)) k ≤ _
          omega
      obtain ⟨nl, hnl⟩ : ∃ nl, nl = (a :: t).length := ⟨_, rfl⟩
      have hnl0 : (0 : Int) < (nl : Int) := by rw [hnl]; simp only [List.length_cons]; omega
      have hnlp : 0 < nl := by omega
      have hnlz : ((nl : Int) == 0) = false := by simp only [beq_eq_false_iff_ne]; omega
      obtain ⟨g, o, cp, rfl, hcur⟩ : ∃ g o cp, lv = .slice (some ⟨g, o, none⟩) nl cp ∧ ∀ j u, ((a :: t).flatMap (encC Vc fun q => ansQ ((gat k W R rb).2 q) k))[j]? = some u → w2.cell? ⟨g, o + j, none⟩ = some u := by
        rcases hlo.2 with ⟨_, h0⟩ | ⟨g', o', cap, cur, hv, _, hg', _, _, _, hc⟩
        · simp at h0
        · exact ⟨g', o', cap, by rw [hv, hnl], fun j u hj => cell_at hg' (hc j u hj)⟩
      have hgw : w.heap.size + 2 ≤ g := by
        have h1 := (hlo.lt (g := g) (by rw [hnl]; rfl)).1
        have h2 := hA1b.size
        omega
      have d0 : w2.cell? ⟨g, o, none⟩ = some (.int .i64 (a.1.val : Int)) := hcur 0 _ rfl
      have d1 : w2.cell? ⟨g, o + 1, none⟩ = some (.bool a.2) := hcur 1 _ rfl
      have d2 : w2.cell? ⟨g, o + 2, none⟩ = some (.slice (some ⟨gc, oc, none⟩) m cc) := (hcur 2 _ rfl).trans (by rw [hvc])
      have d3 : w2.cell? ⟨g, o + 3, none⟩ = some (.float .f64 (fq sq)) := (hcur 3 _ rfl).trans (by rw [hsq])
      have d7 : ∀ b t', t = b :: t' → w2.cell? ⟨g, o + 4 + 3, none⟩ = some (.float .f64 (fq oq)) := by
        intro b t' e
        have := hcur 7 (.float .f64 (fq (ansQ ((gat k W R rb).2 (sd b)) k))) (by rw [e]; rfl)
        rw [show o + 4 + 3 = o + 7 by omega, this, hoq, e]
        rfl
      have hRES : findC R k sc rn rb (gat k W R rb).2 (a :: t) = if FloatKind.f64.format.order (fq sq) sc = some .lt then none else if fnE k rb (R.getD a.1.val S0).b a.2 r0 p0 r1 p1 = 0 then some (fdOf k rn rb (R.getD a.1.val S0).n (R.getD a.1.val S0).b a.2 r0 p0 r1 p1 sq oq) else none := by
        unfold findC
        dsimp only
        rw [hF.e0, hF.e1, hsq, hoq]
        rfl
      have HRES := (show Hid _ from hRES)
      have hIC : Hid (IsC (gat k W R rb).2 k (a :: t)) := ⟨hpw, hmem⟩
      have HF := (show Hid _ from hF)
      have HCH : Hid (OwnR w2 w1.heap.size 140 2 (.slice (some ⟨gc, oc, none⟩) m cc) m (acells (chL k ((gat k W R rb).2 (sd a))))) := hcha
      have HNL := (show Hid _ from hnl)
      have HM := (show Hid _ from hm)
      have HO2 : Hid (OwnR w2 base 62 2 rv R.length (qcells R)) := (HO.out.other (fun j _ hj => hbb.block j hj))
      have hord : ∀ b, (FloatKind.f64.format.order (fq sq) sc == some Ordering.lt) = b → FloatKind.f64.format.order (fq sq) sc = some .lt ∨ b = false := by
        intro b hb
        cases b
        · exact Or.inr rfl
        · exact Or.inl (eq_of_beq hb)
      have HORD := (show Hid _ from hord)
      have h0q : t = [] → oq = 0 := fun e => by rw [hoq, e]; rfl
      clear hRES hpw hmem hF hcha hnl hm hord hlo hch hcur eM eQ hsq hoq cA hS hGl HG0 hbA hb2 hA0 hA1 hvc
      have h2X2 : w2.cell? ⟨X, 2, none⟩ = some (.float .f64 sc) := cell_at h2X rfl
      go_wp2_with fail
      rename_i K4 hK4
      by_cases hlt : FloatKind.f64.format.order (fq sq) sc = some .lt
      · have hB : (FloatKind.f64.format.order (fq sq) sc == some Ordering.lt) = true := by rw [hlt]; rfl
        rw [if_pos hlt] at HRES
        generalize fq sq = fs at *
        refine wp_region_X 15 (fun W1 => W1.cell? ⟨g, o + 3, none⟩ = some (.float .f64 fs) ∧ W1.cell? ⟨X, 2, none⟩ = some (.float .f64 sc)) (by kernel_rfl) ⟨d3, h2X2⟩ (fun hH => ?_)
        refine wpZ 0 hH ?_
        refine wpZ 1 hH ?_
        refine wpZ 2 hH ?_
        refine wpZ 3 hH ?_
        refine wpZ 4 hH ?_
        refine wpZ 5 hH ?_
        refine wpZ 6 hH ?_
        refine wpZ 7 hH ?_
        refine wpZ 8 hH ?_
        refine wpZ 9 hH ?_
        refine wpZ 10 hH ?_
        refine wpZ 11 hH ?_
        refine wpZ 12 hH ?_
        refine wpZ 13 hH ?_
        refine wpZ 14 hH ?_
        refine wpAnyX_done (by kernel_rfl) ?_
        refine hK4 _ _ ?_
        clear hK4 hH
        have v0 := cell_at hh21 (i := 0) rfl
        have v1 := cell_at hh21 (i := 1) rfl
        have v2 := cell_at hh21 (i := 2) rfl
        have v3 := cell_at hh21 (i := 3) rfl
        have v4 := cell_at hh21 (i := 4) rfl
        have v5 := cell_at hh21 (i := 5) rfl
        have v6 := cell_at hh21 (i := 6) rfl
        have v7 := cell_at hh21 (i := 7) rfl
        have v8 := cell_at hh21 (i := 8) rfl
        have v9 := cell_at hh21 (i := 9) rfl
        have v10 := cell_at hh21 (i := 10) rfl
        have v11 := cell_at hh21 (i := 11) rfl
        have v12 := cell_at hh21 (i := 12) rfl
        have vz : ∀ off, w2.frozen? ⟨w.heap.size + 1, off, none⟩ = false := fun off => frozen_of_row _ _ _ _ _ hh21
        go_wp2_with fail
        have U12 := (upd13 (.string ⟨#[]⟩) (.int .i64 0) (.int .i64 0) (.bool false) (.string ⟨#[]⟩) (.int .i64 0) (.int .i64 0) (.float .f64 0) (.float .f64 0) (.int .i64 0) (.string ⟨#[]⟩) (.int .i64 0) (.float .f64 0) hh21).drew
        refine bodyPost_ret (results_ct rfl _ _ (w.heap.size + 1) 46 _ _ _ rfl U12.here Tryz.underlying46 rfl (by kernel_rfl)) rfl ?_
        exact ⟨none, Or.inr (Or.inr ⟨h, hsm, a :: t, hIC.out, HRES.out.symm⟩), rfl, hbb.trans (U12.below (by omega))⟩
      · have hB : (FloatKind.f64.format.order (fq sq) sc == some Ordering.lt) = false := by
          rw [beq_eq_false_iff_ne]; exact hlt
        rw [if_neg hlt] at HRES
        refine wp_region_X 15 (fun W1 => W1.cell? ⟨g, o + 3, none⟩ = some (.float .f64 (fq sq)) ∧ W1.cell? ⟨X, 2, none⟩ = some (.float .f64 sc)) (by kernel_rfl) ⟨d3, h2X2⟩ (fun hH => ?_)
        refine wpZ 0 hH ?_
        refine wpZ 1 hH ?_
        refine wpZ 2 hH ?_
        refine wpZ 3 hH ?_
        refine wpZ 4 hH ?_
        refine wpZ 5 hH ?_
        refine wpZ 6 hH ?_
        refine wpZ 7 hH ?_
        refine wpZ 8 hH ?_
        refine wpZ 9 hH ?_
        refine wpZ 10 hH ?_
        refine wpZ 11 hH ?_
        refine wpZ 12 hH ?_
        refine wpZ 13 hH ?_
        refine wpZ 14 hH ?_
        refine wpAnyX_done (by kernel_rfl) ?_
        refine hK4 _ _ ?_
        clear hK4 hH
        cases t with
        | nil =>
          have hn1 : nl = 1 := HNL.out
          have hn1i : ¬ (1 : Int) < (nl : Int) := by omega
          have hoz := h0q rfl
          subst hoz
          go_wp2_with fail
          rename_i K9 hK9
          have cF := found_any a.2 R X k W sc base w1.heap.size gc oc cc m a.1.val r0 p0 r1 p1 rv (.map (some Hb)) rn rb (chL k ((gat k W R rb).2 (sd a))) sq 0 w2.drew.drew
            h2X (HO2.out.other (fun _ _ _ => rfl)) HF.out.qi (HCH.out.other (fun _ _ _ => rfl)) HM.out.symm hm0 hm4 HF.out.e0 (by rw [HM.out]; exact HF.out.e1) hk2 (by have := HF.out.le0; omega) HF.out.b0 (by have := HF.out.le1; omega) HF.out.b1 (by omega)
            (by have := (HR.out _ (getD_mem R a.1.val HF.out.qi)).2.2.2; omega) hoq1.1 hoq1.2 (by omega) hsq1.2 HGD.out ⟨(HR.out _ (getD_mem R a.1.val HF.out.qi)).2.1, (HR.out _ (getD_mem R a.1.val HF.out.qi)).2.2.1⟩ hl
            (tabOnM HTB.out (w1 := w2.drew.drew) ⟨hbb.os, hbb.tape, hbb.output, hbb.size, hbb.block⟩) (HLT.out.below (w' := w2.drew.drew) ⟨hbb.os, hbb.tape, hbb.output, hbb.size, hbb.block⟩)
          rw [fq0] at cF
          have g9 : ∀ W1 : World, (∀ j, j < w2.heap.size → j ≠ w.heap.size + 1 → W1.heap[j]? = w2.heap[j]?) → W1.cell? ⟨w.heap.size, 0, none⟩ = some (.string rn) ∧ W1.cell? ⟨w.heap.size, 1, none⟩ = some (.string rb) ∧ W1.cell? ⟨g, o, none⟩ = some (.int .i64 (a.1.val : Int)) ∧ W1.cell? ⟨g, o + 1, none⟩ = some (.bool a.2) ∧ W1.cell? ⟨g, o + 2, none⟩ = some (.slice (some ⟨gc, oc, none⟩) m cc) ∧ W1.cell? ⟨g, o + 3, none⟩ = some (.float .f64 (fq sq)) := by
            intro W1 hW
            have hg2 : g < w2.heap.size := block_lt_of_cell d0
            have e1 := hW g hg2 (by omega)
            have e2 := (hW w.heap.size (by have := hA2b.size; omega) (by omega)).trans h20
            exact ⟨cell_at e2 rfl, cell_at e2 rfl, (World.cell?_of_block e1).trans d0, (World.cell?_of_block e1).trans d1, (World.cell?_of_block e1).trans d2, (World.cell?_of_block e1).trans d3⟩
          refine wp_region_X 11 (fun W1 => W1.cell? ⟨w.heap.size, 0, none⟩ = some (.string rn) ∧ W1.cell? ⟨w.heap.size, 1, none⟩ = some (.string rb) ∧ W1.cell? ⟨g, o, none⟩ = some (.int .i64 (a.1.val : Int)) ∧ W1.cell? ⟨g, o + 1, none⟩ = some (.bool a.2) ∧ W1.cell? ⟨g, o + 2, none⟩ = some (.slice (some ⟨gc, oc, none⟩) m cc) ∧ W1.cell? ⟨g, o + 3, none⟩ = some (.float .f64 (fq sq))) (by kernel_rfl) (g9 w2.drew.drew (fun _ _ _ => rfl)) (fun hH => ?_)
          refine wpZ 0 hH ?_
          refine wpZ 1 hH ?_
          refine wpZ 2 hH ?_
          refine wpZ 3 hH ?_
          refine wpZ 4 hH ?_
          refine wpZ 5 hH ?_
          refine wpAnyX_step (i := 6) (by kernel_rfl) rfl (by kernel_rfl) (fun K hK => ?_)
          go_simp
          go_at_call 46
          refine cF.mono ?_
          rintro e w3 ⟨he, hb3⟩
          obtain ⟨res, hres, he2⟩ : ∃ res, findC R k sc rn rb (gat k W R rb).2 (a :: []) = res ∧ e = .returned (.tuple (resV res)) := by
            refine ⟨_, HRES.out, ?_⟩
            rw [he]
            by_cases hz : fnE k rb (R.getD a.1.val S0).b a.2 r0 p0 r1 p1 = 0
            · rw [if_pos hz, if_pos hz]; rfl
            · rw [if_neg hz, if_neg hz]; rfl
          clear he cF
          subst he2
          have h23 : ∀ j, j < w2.heap.size → w3.heap[j]? = w2.heap[j]? := fun j hj => hb3.block j hj
          have hb33 : Below w.heap.size w w3 := hbb.trans ((show Below w2.heap.size w2 w3 from ⟨hb3.os, hb3.tape, hb3.output, hb3.size, hb3.block⟩).mono hbb.size)
          have h31 := (h23 (w.heap.size + 1) (by have := hA2b.size; omega)).trans hh21
          have hH := g9 w3 (fun j hj _ => h23 j hj)
          have HRS : Hid (findC R k sc rn rb (gat k W R rb).2 (a :: []) = res) := hres
          clear hres hb3
          have vz : ∀ off, w3.frozen? ⟨w.heap.size + 1, off, none⟩ = false := fun off => frozen_of_row _ _ _ _ _ h31
          have v0 := cell_at h31 (i := 0) rfl
          have v1 := cell_at h31 (i := 1) rfl
          have v2 := cell_at h31 (i := 2) rfl
          have v3 := cell_at h31 (i := 3) rfl
          have v4 := cell_at h31 (i := 4) rfl
          have v5 := cell_at h31 (i := 5) rfl
          have v6 := cell_at h31 (i := 6) rfl
          have v7 := cell_at h31 (i := 7) rfl
          have v8 := cell_at h31 (i := 8) rfl
          have v9 := cell_at h31 (i := 9) rfl
          have v10 := cell_at h31 (i := 10) rfl
          have v11 := cell_at h31 (i := 11) rfl
          have v12 := cell_at h31 (i := 12) rfl
          cases res with
          | none =>
            simp only [resV, zFound]
            refine hK.out _ _ hH ?_
            clear hK K
            try simp only [Act.put, zA0, zZ0, zS0]
            refine wpZ 7 hH ?_
            refine wpZ 8 hH ?_
            refine wpAnyX_step (i := 9) (by kernel_rfl) rfl (by kernel_rfl) (fun K hK => ?_)
            go_simp
            have U12 := upd13 (.string ⟨#[]⟩) (.int .i64 0) (.int .i64 0) (.bool false) (.string ⟨#[]⟩) (.int .i64 0) (.int .i64 0) (.float .f64 0) (.float .f64 0) (.int .i64 0) (.string ⟨#[]⟩) (.int .i64 0) (.float .f64 0) h31
            refine hK.out _ _ (g9 _ (fun j hj hne => (U12.other j hne).trans (h23 j hj))) ?_
            clear hK K hH
            have hH := g9 _ (fun j hj hne => (U12.other j hne).trans (h23 j hj))
            try simp only [Act.put, zA0, zZ0, zS0]
            refine wpZ 10 hH ?_
            refine wpAnyX_done (by kernel_rfl) ?_
            refine hK9 _ _ ?_
            clear hK9 hH
            go_wp2_with fail
            refine bodyPost_ret (results_ct rfl _ _ (w.heap.size + 1) 46 _ _ _ rfl U12.here Tryz.underlying46 rfl (by kernel_rfl)) rfl ?_
            exact ⟨none, Or.inr (Or.inr ⟨h, hsm, a :: [], hIC.out, HRS.out.symm⟩), rfl, hb33.trans (U12.below (by omega))⟩
          | some f =>
            simp only [resV, FD.cells]
            refine hK.out _ _ hH ?_
            clear hK K
            try simp only [Act.put, zA0, zZ0, zS0]
            refine wpZ 7 hH ?_
            refine wpZ 8 hH ?_
            refine wpAnyX_step (i := 9) (by kernel_rfl) rfl (by kernel_rfl) (fun K hK => ?_)
            go_simp
            have U12 := upd13 (.string f.rd) (.int .i64 f.fr) (.int .i64 f.tl) (.bool f.bk) (.string f.sn) (.int .i64 f.st) (.int .i64 f.en) (.float .f64 (fq f.sq)) (.float .f64 (fq f.oq)) (.int .i64 f.ql) (.string ⟨f.sc.toArray⟩) (.int .i64 f.sm) (.float .f64 f.id) h31
            refine hK.out _ _ (g9 _ (fun j hj hne => (U12.other j hne).trans (h23 j hj))) ?_
            clear hK K hH
            have hH := g9 _ (fun j hj hne => (U12.other j hne).trans (h23 j hj))
            try simp only [Act.put, zA0, zZ0, zS0]
            refine wpZ 10 hH ?_
            refine wpAnyX_done (by kernel_rfl) ?_
            refine hK9 _ _ ?_
            clear hK9 hH
            go_wp2_with fail
            refine bodyPost_ret (results_ct rfl _ _ (w.heap.size + 1) 46 _ _ _ rfl U12.here Tryz.underlying46 rfl (by kernel_rfl)) rfl ?_
            exact ⟨some f, Or.inr (Or.inr ⟨h, hsm, a :: [], hIC.out, HRS.out.symm⟩), rfl, hb33.trans (U12.below (by omega))⟩
        | cons b t' =>
          have hn1 : 1 < nl := by have := HNL.out; simp only [List.length_cons] at this; omega
          have hn1i : (1 : Int) < (nl : Int) := by omega
          have d7' := d7 b t' rfl
          go_wp2_with fail
          rename_i K9 hK9
          have cF := found_any a.2 R X k W sc base w1.heap.size gc oc cc m a.1.val r0 p0 r1 p1 rv (.map (some Hb)) rn rb (chL k ((gat k W R rb).2 (sd a))) sq oq w2.drew.drew
            h2X (HO2.out.other (fun _ _ _ => rfl)) HF.out.qi (HCH.out.other (fun _ _ _ => rfl)) HM.out.symm hm0 hm4 HF.out.e0 (by rw [HM.out]; exact HF.out.e1) hk2 (by have := HF.out.le0; omega) HF.out.b0 (by have := HF.out.le1; omega) HF.out.b1 (by omega)
            (by have := (HR.out _ (getD_mem R a.1.val HF.out.qi)).2.2.2; omega) hoq1.1 hoq1.2 (by omega) hsq1.2 HGD.out ⟨(HR.out _ (getD_mem R a.1.val HF.out.qi)).2.1, (HR.out _ (getD_mem R a.1.val HF.out.qi)).2.2.1⟩ hl
            (tabOnM HTB.out (w1 := w2.drew.drew) ⟨hbb.os, hbb.tape, hbb.output, hbb.size, hbb.block⟩) (HLT.out.below (w' := w2.drew.drew) ⟨hbb.os, hbb.tape, hbb.output, hbb.size, hbb.block⟩)
          have g9 : ∀ W1 : World, (∀ j, j < w2.heap.size → j ≠ w.heap.size + 1 → W1.heap[j]? = w2.heap[j]?) → W1.cell? ⟨w.heap.size, 0, none⟩ = some (.string rn) ∧ W1.cell? ⟨w.heap.size, 1, none⟩ = some (.string rb) ∧ W1.cell? ⟨g, o, none⟩ = some (.int .i64 (a.1.val : Int)) ∧ W1.cell? ⟨g, o + 1, none⟩ = some (.bool a.2) ∧ W1.cell? ⟨g, o + 2, none⟩ = some (.slice (some ⟨gc, oc, none⟩) m cc) ∧ W1.cell? ⟨g, o + 3, none⟩ = some (.float .f64 (fq sq)) := by
            intro W1 hW
            have hg2 : g < w2.heap.size := block_lt_of_cell d0
            have e1 := hW g hg2 (by omega)
            have e2 := (hW w.heap.size (by have := hA2b.size; omega) (by omega)).trans h20
            exact ⟨cell_at e2 rfl, cell_at e2 rfl, (World.cell?_of_block e1).trans d0, (World.cell?_of_block e1).trans d1, (World.cell?_of_block e1).trans d2, (World.cell?_of_block e1).trans d3⟩
          refine wp_region_X 11 (fun W1 => W1.cell? ⟨w.heap.size, 0, none⟩ = some (.string rn) ∧ W1.cell? ⟨w.heap.size, 1, none⟩ = some (.string rb) ∧ W1.cell? ⟨g, o, none⟩ = some (.int .i64 (a.1.val : Int)) ∧ W1.cell? ⟨g, o + 1, none⟩ = some (.bool a.2) ∧ W1.cell? ⟨g, o + 2, none⟩ = some (.slice (some ⟨gc, oc, none⟩) m cc) ∧ W1.cell? ⟨g, o + 3, none⟩ = some (.float .f64 (fq sq))) (by kernel_rfl) (g9 w2.drew.drew (fun _ _ _ => rfl)) (fun hH => ?_)
          refine wpZ 0 hH ?_
          refine wpZ 1 hH ?_
          refine wpZ 2 hH ?_
          refine wpZ 3 hH ?_
          refine wpZ 4 hH ?_
          refine wpZ 5 hH ?_
          refine wpAnyX_step (i := 6) (by kernel_rfl) rfl (by kernel_rfl) (fun K hK => ?_)
          go_simp
          go_at_call 46
          refine cF.mono ?_
          rintro e w3 ⟨he, hb3⟩
          obtain ⟨res, hres, he2⟩ : ∃ res, findC R k sc rn rb (gat k W R rb).2 (a :: b :: t') = res ∧ e = .returned (.tuple (resV res)) := by
            refine ⟨_, HRES.out, ?_⟩
            rw [he]
            by_cases hz : fnE k rb (R.getD a.1.val S0).b a.2 r0 p0 r1 p1 = 0
            · rw [if_pos hz, if_pos hz]; rfl
            · rw [if_neg hz, if_neg hz]; rfl
          clear he cF
          subst he2
          have h23 : ∀ j, j < w2.heap.size → w3.heap[j]? = w2.heap[j]? := fun j hj => hb3.block j hj
          have hb33 : Below w.heap.size w w3 := hbb.trans ((show Below w2.heap.size w2 w3 from ⟨hb3.os, hb3.tape, hb3.output, hb3.size, hb3.block⟩).mono hbb.size)
          have h31 := (h23 (w.heap.size + 1) (by have := hA2b.size; omega)).trans hh21
          have hH := g9 w3 (fun j hj _ => h23 j hj)
          have HRS : Hid (findC R k sc rn rb (gat k W R rb).2 (a :: b :: t') = res) := hres
          clear hres hb3
          have vz : ∀ off, w3.frozen? ⟨w.heap.size + 1, off, none⟩ = false := fun off => frozen_of_row _ _ _ _ _ h31
          have v0 := cell_at h31 (i := 0) rfl
          have v1 := cell_at h31 (i := 1) rfl
          have v2 := cell_at h31 (i := 2) rfl
          have v3 := cell_at h31 (i := 3) rfl
          have v4 := cell_at h31 (i := 4) rfl
          have v5 := cell_at h31 (i := 5) rfl
          have v6 := cell_at h31 (i := 6) rfl
          have v7 := cell_at h31 (i := 7) rfl
          have v8 := cell_at h31 (i := 8) rfl
          have v9 := cell_at h31 (i := 9) rfl
          have v10 := cell_at h31 (i := 10) rfl
          have v11 := cell_at h31 (i := 11) rfl
          have v12 := cell_at h31 (i := 12) rfl
          cases res with
          | none =>
            simp only [resV, zFound]
            refine hK.out _ _ hH ?_
            clear hK K
            try simp only [Act.put, zA0, zZ0, zS0]
            refine wpZ 7 hH ?_
            refine wpZ 8 hH ?_
            refine wpAnyX_step (i := 9) (by kernel_rfl) rfl (by kernel_rfl) (fun K hK => ?_)
            go_simp
            have U12 := upd13 (.string ⟨#[]⟩) (.int .i64 0) (.int .i64 0) (.bool false) (.string ⟨#[]⟩) (.int .i64 0) (.int .i64 0) (.float .f64 0) (.float .f64 0) (.int .i64 0) (.string ⟨#[]⟩) (.int .i64 0) (.float .f64 0) h31
            refine hK.out _ _ (g9 _ (fun j hj hne => (U12.other j hne).trans (h23 j hj))) ?_
            clear hK K hH
            have hH := g9 _ (fun j hj hne => (U12.other j hne).trans (h23 j hj))
            try simp only [Act.put, zA0, zZ0, zS0]
            refine wpZ 10 hH ?_
            refine wpAnyX_done (by kernel_rfl) ?_
            refine hK9 _ _ ?_
            clear hK9 hH
            go_wp2_with fail
            refine bodyPost_ret (results_ct rfl _ _ (w.heap.size + 1) 46 _ _ _ rfl U12.here Tryz.underlying46 rfl (by kernel_rfl)) rfl ?_
            exact ⟨none, Or.inr (Or.inr ⟨h, hsm, a :: b :: t', hIC.out, HRS.out.symm⟩), rfl, hb33.trans (U12.below (by omega))⟩
          | some f =>
            simp only [resV, FD.cells]
            refine hK.out _ _ hH ?_
            clear hK K
            try simp only [Act.put, zA0, zZ0, zS0]
            refine wpZ 7 hH ?_
            refine wpZ 8 hH ?_
            refine wpAnyX_step (i := 9) (by kernel_rfl) rfl (by kernel_rfl) (fun K hK => ?_)
            go_simp
            have U12 := upd13 (.string f.rd) (.int .i64 f.fr) (.int .i64 f.tl) (.bool f.bk) (.string f.sn) (.int .i64 f.st) (.int .i64 f.en) (.float .f64 (fq f.sq)) (.float .f64 (fq f.oq)) (.int .i64 f.ql) (.string ⟨f.sc.toArray⟩) (.int .i64 f.sm) (.float .f64 f.id) h31
            refine hK.out _ _ (g9 _ (fun j hj hne => (U12.other j hne).trans (h23 j hj))) ?_
            clear hK K hH
            have hH := g9 _ (fun j hj hne => (U12.other j hne).trans (h23 j hj))
            try simp only [Act.put, zA0, zZ0, zS0]
            refine wpZ 10 hH ?_
            refine wpAnyX_done (by kernel_rfl) ?_
            refine hK9 _ _ ?_
            clear hK9 hH
            go_wp2_with fail
            refine bodyPost_ret (results_ct rfl _ _ (w.heap.size + 1) 46 _ _ _ rfl U12.here Tryz.underlying46 rfl (by kernel_rfl)) rfl ?_
            exact ⟨some f, Or.inr (Or.inr ⟨h, hsm, a :: b :: t', hIC.out, HRS.out.symm⟩), rfl, hb33.trans (U12.below (by omega))⟩
theorem find_any (R : List S2) (base X k W sc : Nat) (rn rb : ByteArray) (w : World) (hk1 : 1 ≤ k) (hk2 : k ≤ 12) (hW : 1 ≤ W) (hW2 : W ≤ 20) (hR : ∀ x ∈ R, good x.b ∧ 1 ≤ x.n.size ∧ x.n.size ≤ 8000 ∧ x.b.size ≤ 4000) (hl : R.length < 100000) (hsum : sumN R R.length ≤ 4000) (hI : IxP w base X R k W sc) (hrb : rb.size ≤ 140737488351232) (hg : good rb)
    (htab : Lib.TabBelow Tryz.prog w.heap.size w "internal/strconv.uint64pow10" .u64 Lib.pow10Tab) (hLt : LtP w) :
    Calls Tryz.prog 28 #[.pointer (some ⟨X, 0, none⟩), .agg #[.string rn, .string rb]] w fun e w' => FiP R k W sc rn rb w e w' := by
  by_cases h : 300 < rb.size
  · exact find_long R X k W sc rn rb w h hrb
  · exact find_short R base X k W sc rn rb w hk1 hk2 hW hW2 hR hl hsum hI (by omega) hg htab hLt
end Go.Proofs.YtilcmkiihefkkabGreatDoor.Mn
end
