import Derived.Test.YtilcmkiihefkkaaDoorSeC
set_option linter.unusedVariables false
set_option linter.unusedSimpArgs false
set_option maxRecDepth 100000
namespace Go.Proofs.YtilcmkiihefkkaaDoor
open Go.RowKit Go.Shelf Go.Lib

theorem RowP.ownPre {w : World} {g n j base : Nat} {h : Nat → C3} (hr : RowP w g n h j) (hj : j ≤ n) (hb : base ≤ g) (hn : n ≤ maxLen) : OwnR w base 47 3 (.slice (some ⟨g, 0, none⟩) j n) j (celsL h j) := by
  obtain ⟨cur, h1, h2, h3⟩ := hr
  refine ⟨celsL_length h j, Or.inr ⟨g, 0, n, cur, rfl, hb, h1, hj, hn, by omega, fun t u ht => ?_⟩⟩
  have hl := celsL_length h j
  have htl : t < j * 3 := by
    rcases Nat.lt_or_ge t (j * 3) with h | h
    · exact h
    · rw [List.getElem?_eq_none (by omega)] at ht; exact absurd ht (by simp)
  obtain ⟨g1, g2, g3⟩ := celsL_get h j (t / 3) (by omega)
  obtain ⟨e1, e2, e3⟩ := h3 (t / 3) (by omega)
  rw [Nat.zero_add]
  rcases (show t = t / 3 * 3 ∨ t = t / 3 * 3 + 1 ∨ t = t / 3 * 3 + 2 by omega) with he | he | he
  · rw [he] at ht ⊢; rw [g1] at ht; rw [← ht]; exact e1
  · rw [he] at ht ⊢; rw [g2] at ht; rw [← ht]; exact e2
  · rw [he] at ht ⊢; rw [g3] at ht; rw [← ht]; exact e3

set_option maxHeartbeats 4000000 in
theorem ngrid_any (m : Nat) (hm : m ≤ 600) (w : World) :
    Calls Tryd.prog 12 #[.int .i64 m] w fun e w' => ∃ B vw v0, e = .returned (.pointer (some ⟨B, 0, none⟩)) ∧ w.heap.size ≤ B ∧ w'.heap[B]? = some (.cells #[.slice none 0 0, .slice none 0 0, vw] 50 (0, 0)) ∧
      OwnR w' w.heap.size 45 1 vw 1 [v0] ∧ OwnR w' w.heap.size 47 3 v0 1 (celsL (row0 1048576) 1) ∧ Below w.heap.size w w' := by
  obtain ⟨ic, hic, hy0, hy1, hy2⟩ := info_parts Tryd.infoCell
  obtain ⟨Z, hZ, hmk⟩ : ∃ Z : Array Value, Z.size = (m + 1) * 3 ∧ ∀ W : World, (Instr.makeSlice 45 (.int .i64 1) (.int .i64 ((m : Int) + 1))).run Tryd.prog W = .ok (.slice (some ⟨W.heap.size, 0, none⟩) 1 (m + 1)) (W.alloc (.cells Z 47)) := by
    refine ⟨madeCells (Value.agg #[.int .i64 0, .int .i64 0, .int .i64 0]).cells ((m + 1) * 3), by rw [size_madeCells], fun W => ?_⟩
    have e : (m : Int) + 1 = ((m + 1 : Nat) : Int) := by omega
    rw [e]
    have := run_make (P := Tryd.prog) W 45 47 ic _ Tryd.underlying45 hic hy0 .i64 .i64 1 ((m + 1 : Nat) : Int) (by omega) (by omega) (by rw [hy2]; omega) (by omega)
    rw [hy1] at this
    simpa using this
  have hmw : IntKind.i64.wrap ((m : Int) + 1) = (m : Int) + 1 := by rw [IntKind.wrap_i64]; omega
  go_enter Tryd.func12, Tryd.ntmps12
  go_upto_region 2 with fail
  obtain ⟨w1, hw1⟩ : ∃ w1 : World, w1 = w.alloc (.cells Z 47) := ⟨_, rfl⟩
  obtain ⟨X, hX⟩ : ∃ X, X = w.heap.size := ⟨_, rfl⟩
  have hA : w1.heap[X]? = some (.cells Z 47 (0, 0)) := by rw [hw1, hX]; exact heap_alloc_new w _
  have hR : RowP w1 X (m + 1) (row0 1048576) 0 := ⟨Z, hA, hZ, fun t ht => absurd ht (by omega)⟩
  have HB1 : Hid (Below X w w1) := by rw [hw1, hX]; exact (Below.refl _ w).alloc (Nat.le_refl _) _
  have hs1 : w1.heap.size = X + 1 := by rw [hw1, hX]; simp
  obtain ⟨⟨y0, c0⟩, z0⟩ := hR.any 0 (by omega)
  obtain ⟨⟨y1, c1⟩, z1⟩ := hR.any 1 (by omega)
  obtain ⟨⟨y2, c2⟩, z2⟩ := hR.any 2 (by omega)
  have HR : Hid (RowP w1 X (m + 1) (row0 1048576) 0) := hR
  have HX : Hid (X = w.heap.size) := hX
  rw [← hw1, ← hX]
  clear hw1 hX hA hR hZ hmk
  go_upto_region 3 with fail
  have hr2 := HR.out.set (by omega) 0 1048576 1048576 rfl
  simp only [Nat.zero_mul, Nat.zero_add] at hr2
  have hb2 := ((HB1.out.setCell (p := ⟨X, 0, none⟩) (Nat.le_refl _) (.int .i64 0)).setCell (p := ⟨X, 1, none⟩) (Nat.le_refl _) (.int .i64 1048576)).setCell (p := ⟨X, 2, none⟩) (Nat.le_refl _) (.int .i64 1048576)
  have hs2 : ((((w1.setCell ⟨X, 0, none⟩ (.int .i64 0)).setCell ⟨X, 1, none⟩ (.int .i64 1048576)).setCell ⟨X, 2, none⟩ (.int .i64 1048576))).heap.size = X + 1 := by simpa using hs1
  generalize (((w1.setCell ⟨X, 0, none⟩ (.int .i64 0)).setCell ⟨X, 1, none⟩ (.int .i64 1048576)).setCell ⟨X, 2, none⟩ (.int .i64 1048576)) = w2 at hr2 hb2 hs2 ⊢
  have HR2 : Hid (RowP w2 X (m + 1) (row0 1048576) 1) := hr2
  have HB2 : Hid (Below X w w2) := hb2
  clear hr2 hb2 c0 c1 c2 z0 z1 z2 HR HB1 hs1
  go_wp2_with fail
  go_ret
  obtain ⟨oA, hoA⟩ : ∃ o : Obj, o = .cells #[.slice (some ⟨X, 0, none⟩) 1 (m + 1)] 45 (0, 0) := ⟨_, rfl⟩
  obtain ⟨oB, hoB⟩ : ∃ o : Obj, o = .cells #[.slice none 0 0, .slice none 0 0, .slice (some ⟨X + 1, 0, none⟩) 1 1] 50 (0, 0) := ⟨_, rfl⟩
  rw [← hoA, ← hoB, ← HX.out]
  have hsA : (w2.alloc oA).heap.size = X + 1 + 1 := by simp [hs2]
  have hB : ((w2.alloc oA).alloc oB).heap[X + 1 + 1]? = some oB := by
    have := heap_alloc_new (w2.alloc oA) oB
    rwa [hsA] at this
  have hA : ((w2.alloc oA).alloc oB).heap[X + 1]? = some oA := by
    rw [Below.heap_alloc _ _ _ (by omega)]
    have := heap_alloc_new w2 oA
    rwa [hs2] at this
  refine ⟨X + 1 + 1, .slice (some ⟨X + 1, 0, none⟩) 1 1, .slice (some ⟨X, 0, none⟩) 1 (m + 1), rfl, by omega, hB.trans (by rw [hoB]), ?_, ?_, ?_⟩
  · refine ⟨rfl, Or.inr ⟨X + 1, 0, 1, #[.slice (some ⟨X, 0, none⟩) 1 (m + 1)], rfl, by omega, hA.trans (by rw [hoA]), Nat.le_refl _, by decide, by simp, fun j u hj => ?_⟩⟩
    simpa using hj
  · exact ((HR2.out.ownPre (by omega) (Nat.le_refl _) (by unfold maxLen; omega)).alloc oA).alloc oB
  · exact (HB2.out.alloc (by omega) oA).alloc (by rw [hsA]; omega) oB
end Go.Proofs.YtilcmkiihefkkaaDoor
