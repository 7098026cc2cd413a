import Derived.Test.YtilcmkiihefkkabGreatDoorJk10
import Derived.Test.YtilcmkiihefkkabGreatDoorJk20
import Derived.Test.YtilcmkiihefkkabGreatDoorJk5
section
set_option linter.unusedVariables false
set_option linter.unusedSimpArgs false
set_option maxRecDepth 100000
namespace Go.Proofs.YtilcmkiihefkkabGreatDoor.Mn
open Go.RowKit Go.Maps
theorem Tryz.info78x : (Tryz.prog.info? 78).map (fun i => (i.zero, i.size, i.bytes)) = some (some (.agg #[.int .i64 0, .int .i64 0, .bool false]), 3, 24) := by kernel_rfl
/-- a hash as a key -/
def kI (h : Int) : Lit := .int .i64 h
def okI (h : Int) : Prop := (Lit.int .i64 h).wf = true
def eqI (a b : Int) : Bool := decide (a = b)
theorem eqI_iff (a b : Int) : eqI a b = true ↔ a = b := by simp [eqI]
theorem kI_inj (a b : Int) (_ : okI a) (_ : okI b) (h : kI a = kI b) : a = b := by simpa [kI] using h
theorem keyI (h : Int) (ho : okI h) : keyOf Tryz.prog 3 (.int .i64 h) = some (kI h) := keyOf_int_mk Tryz.underlying3 ho
theorem lawI : Keyed Tryz.prog 3 := int_keyed Tryz.underlying3
theorem zeroHits (w : World) : (zeroValue 41).run Tryz.prog w = .ok nilS w := by kernel_rfl
abbrev HtP (w : World) (base Hb n : Nat) (V : Int → Value) (T : Int → List W3) : Prop := GrP Tryz.prog kI okI wcells 3 78 3 w base Hb n V T
/-- a word of reference number i is entered -/
def entW (i : Nat) (T : Int → List W3) (x : W3) : Int → List W3 := updF eqI T x.h (T x.h ++ [⟨i, x.p, x.b⟩])
theorem hbox_cells (W : World) (x : W3) (s : Nat) (hs : s = W.heap.size) : ∀ j u, ([.int .i64 x.h, .int .i64 x.p, .bool x.b] : List Value)[j]? = some u → (W.alloc (.cells #[.int .i64 x.h, .int .i64 x.p, .bool x.b] 78)).cell? ((⟨s, 0, none⟩ : Addr).add j) = some u := by
  intro j u hj
  subst hs
  have h := heap_alloc_new W (.cells #[.int .i64 x.h, .int .i64 x.p, .bool x.b] 78)
  rw [Addr.add_lit, cell_of_row _ _ _ _ _ _ h]
  match j, hj with
  | 0, hj => simpa using hj
  | 1, hj => simpa using hj
  | 2, hj => simpa using hj
set_option maxHeartbeats 4000000 in
theorem eword_any (i : Nat) (x : W3) (hx : okI x.h) (Eb Hb base n : Nat) (V : Int → Value) (T : Int → List W3) (w : World) (hn : n < 100000) (hT : (T x.h).length < 100000) (hbase : base ≤ w.heap.size)
    (hE : w.heap[Eb]? = some (.cells #[.int .i64 i, .map (some Hb)] 86 (0, 0))) (hG : HtP w base Hb n V T) :
    Calls Tryz.prog 34 #[.pointer (some ⟨Eb, 0, none⟩), .agg #[.int .i64 x.h, .int .i64 x.p, .bool x.b]] w fun e w' => e = .returned (.tuple #[]) ∧
      (∃ V', HtP w' base Hb (n + 1) V' (entW i T x)) ∧ w.heap.size ≤ w'.heap.size ∧ (∀ g, g < w.heap.size → g ≠ Hb → (V x.h).ownBlock ≠ some g → w'.heap[g]? = w.heap[g]?) ∧ w'.os = w.os ∧ w'.tape = w.tape ∧ w'.output = w.output := by
  obtain ⟨i0, hi, hz0, hz1, hz2⟩ := info_parts Tryz.info78x
  have HG : Hid (HtP w base Hb n V T) := hG
  have e0 : w.cell? ⟨Eb, 0, none⟩ = some (.int .i64 i) := cell_at hE rfl
  have e1 : w.cell? ⟨Eb, 1, none⟩ = some (.map (some Hb)) := cell_at hE rfl
  have HE : Hid (w.heap[Eb]? = some (.cells #[.int .i64 i, .map (some Hb)] 86 (0, 0))) := hE
  have hEl : Eb < w.heap.size := lt_of_block hE
  clear hG hE
  go_enter Tryz.func34, Tryz.ntmps34
  go_wp2_with fail
  rename_i Q0 K0 hK0
  obtain ⟨wA, hwA⟩ : ∃ W : World, W = w.alloc (.cells #[.int .i64 x.h, .int .i64 x.p, .bool x.b] 124) := ⟨_, rfl⟩
  have HA : Hid (wA = w.alloc (.cells #[.int .i64 x.h, .int .i64 x.p, .bool x.b] 124)) := hwA
  have hA0 : wA.heap[w.heap.size]? = some (.cells #[.int .i64 x.h, .int .i64 x.p, .bool x.b] 124 (0, 0)) := by rw [hwA]; exact heap_alloc_new w _
  have hbA : Below w.heap.size w wA := by rw [hwA]; exact (Below.refl _ _).alloc (Nat.le_refl _) _
  have hsA : wA.heap.size = w.heap.size + 1 := by rw [hwA]; simp
  rw [← hwA]
  have f0 : wA.drew.cell? ⟨Eb, 0, none⟩ = some (.int .i64 i) := cell_at ((hbA.block Eb hEl).trans HE.out) rfl
  have f1 : wA.drew.cell? ⟨w.heap.size, 1, none⟩ = some (.int .i64 x.p) := cell_at hA0 rfl
  have f2 : wA.drew.cell? ⟨w.heap.size, 2, none⟩ = some (.bool x.b) := cell_at hA0 rfl
  clear hwA e0 e1
  refine wp_region_X 10 (fun W => W.cell? ⟨Eb, 0, none⟩ = some (.int .i64 i) ∧ W.cell? ⟨w.heap.size, 1, none⟩ = some (.int .i64 x.p) ∧ W.cell? ⟨w.heap.size, 2, none⟩ = some (.bool x.b)) (by kernel_rfl) ⟨f0, f1, f2⟩ (fun hH => ?_)
  refine wpZ 0 hH ?_
  refine wpZ 1 hH ?_
  refine wpZ 2 hH ?_
  refine wpZ 3 hH ?_
  refine wpZ 4 hH ?_
  refine wpZ 5 hH ?_
  refine wpZ 6 hH ?_
  refine wpZ 7 hH ?_
  refine wpZ 8 hH ?_
  refine wpAnyX_step (i := 9) (by kernel_rfl) rfl (by kernel_rfl) (fun K hK => ?_)
  go_simp
  have g0 : ∀ ob, (wA.drew.alloc ob).cell? ⟨Eb, 0, none⟩ = some (.int .i64 i) ∧ (wA.drew.alloc ob).cell? ⟨w.heap.size, 1, none⟩ = some (.int .i64 x.p) ∧ (wA.drew.alloc ob).cell? ⟨w.heap.size, 2, none⟩ = some (.bool x.b) := fun ob =>
    ⟨(World.cell?_of_block (Below.heap_alloc wA.drew ob Eb (by show Eb < wA.heap.size; omega))).trans f0, (World.cell?_of_block (Below.heap_alloc wA.drew ob w.heap.size (by show w.heap.size < wA.heap.size; omega))).trans f1, (World.cell?_of_block (Below.heap_alloc wA.drew ob w.heap.size (by show w.heap.size < wA.heap.size; omega))).trans f2⟩
  refine hK.out _ _ (g0 _) ?_
  clear hK K hH
  try simp only [Act.put, zA0, zZ0, zS0]
  refine wpAnyX_last (i := 10) (by kernel_rfl) rfl (by kernel_rfl) (by kernel_rfl) (fun K hK => ?_)
  go_simp
  refine hK.out _ _ ?_
  clear hK K
  refine hK0 _ _ ?_
  clear hK0 g0 f0 f1 f2
  obtain ⟨wB, hwB⟩ : ∃ W : World, W = (wA.alloc (Obj.cells #[Value.int IntKind.i64 ↑i, Value.int IntKind.i64 x.p, Value.bool x.b] 78)).drew := ⟨_, rfl⟩
  rw [← hwB]
  have hB1 : wB.heap[w.heap.size + 1]? = some (.cells #[.int .i64 i, .int .i64 x.p, .bool x.b] 78 (0, 0)) := by rw [hwB, ← hsA]; exact heap_alloc_new wA _
  have hbB : Below w.heap.size w wB := by
    have h2 := (hbA.alloc (by omega) (Obj.cells #[Value.int IntKind.i64 ↑i, Value.int IntKind.i64 x.p, Value.bool x.b] 78))
    rw [hwB]; exact ⟨h2.os, h2.tape, h2.output, h2.size, h2.block⟩
  have hB0 : wB.heap[w.heap.size]? = some (.cells #[.int .i64 x.h, .int .i64 x.p, .bool x.b] 124 (0, 0)) := by rw [hwB]; exact (Below.heap_alloc wA _ _ (by omega)).trans hA0
  have hsB : wB.heap.size = w.heap.size + 2 := by rw [hwB]; show (wA.alloc _).heap.size = _; simp [hsA]
  clear hwB hA0 hbA hsA HA
  clear wA
  have hGB : HtP wB base Hb n V T := HG.out.kept (fun j hj => hbB.block j hj)
  obtain ⟨D, hD, hD1, hD2, hD3⟩ := hGB.map
  have hDd : wB.drew.ownsMap Tryz.prog 3 rawR Hb n D := hD
  have f0 : wB.drew.cell? ⟨Eb, 1, none⟩ = some (.map (some Hb)) := cell_at ((hbB.block Eb hEl).trans HE.out) rfl
  have f1 : wB.drew.cell? ⟨w.heap.size, 0, none⟩ = some (.int .i64 x.h) := cell_at hB0 rfl
  have f2 : wB.drew.cell? ⟨w.heap.size + 1, 0, none⟩ = some (.int .i64 i) := cell_at hB1 rfl
  have f3 : wB.drew.cell? ⟨w.heap.size + 1, 1, none⟩ = some (.int .i64 x.p) := cell_at hB1 rfl
  have f4 : wB.drew.cell? ⟨w.heap.size + 1, 2, none⟩ = some (.bool x.b) := cell_at hB1 rfl
  have hlk : ∀ W : World, W.ownsMap Tryz.prog 3 rawR Hb n D → (Instr.lookup 57 (.map (some Hb)) (.int .i64 x.h) false).run Tryz.prog W = .ok (V x.h) W := by
    intro W hW
    obtain ⟨v, ps, hrun, hv⟩ := hW.lookup lawI Tryz.underlying57 (zeroHits W) (zd := .held nilS) (zp := []) rfl (keyI x.h hx)
    rw [show D.atKey (kI x.h) (.held nilS) = .held (V x.h) from hD1 x.h hx] at hv
    simp only [rawR, Option.some.injEq, Prod.mk.injEq, DataW.held.injEq] at hv
    rw [hrun, hv.1]
  refine wp_region_X 16 (fun W => W.cell? ⟨Eb, 1, none⟩ = some (.map (some Hb)) ∧ W.cell? ⟨w.heap.size, 0, none⟩ = some (.int .i64 x.h) ∧ W.cell? ⟨w.heap.size + 1, 0, none⟩ = some (.int .i64 i) ∧ W.cell? ⟨w.heap.size + 1, 1, none⟩ = some (.int .i64 x.p) ∧ W.cell? ⟨w.heap.size + 1, 2, none⟩ = some (.bool x.b) ∧ (Instr.lookup 57 (.map (some Hb)) (.int .i64 x.h) false).run Tryz.prog W = .ok (V x.h) W) (by kernel_rfl) ⟨f0, f1, f2, f3, f4, hlk _ hDd⟩ (fun hH => ?_)
  refine wpZ 0 hH ?_
  refine wpZ 1 hH ?_
  refine wpZ 2 hH ?_
  refine wpZ 3 hH ?_
  refine wpZ 4 hH ?_
  refine wpZ 5 hH ?_
  refine wpZ 6 hH ?_
  refine wpZ 7 hH ?_
  refine wpZ 8 hH ?_
  refine wpZ 9 hH ?_
  refine wpZ 10 hH ?_
  refine wpZ 11 hH ?_
  refine wpZ 12 hH ?_
  refine wpZ 13 hH ?_
  have HVl : ∀ g, (V x.h).ownBlock = some g → g < w.heap.size := fun g hg => ((HG.out.own x.h hx).lt hg).2
  have g0 : ∀ W : World, (∀ j, j < w.heap.size + 2 → (V x.h).ownBlock ≠ some j → W.heap[j]? = wB.heap[j]?) → W.cell? ⟨Eb, 1, none⟩ = some (.map (some Hb)) ∧ W.cell? ⟨w.heap.size, 0, none⟩ = some (.int .i64 x.h) ∧ W.cell? ⟨w.heap.size + 1, 0, none⟩ = some (.int .i64 i) ∧ W.cell? ⟨w.heap.size + 1, 1, none⟩ = some (.int .i64 x.p) ∧ W.cell? ⟨w.heap.size + 1, 2, none⟩ = some (.bool x.b) ∧ (Instr.lookup 57 (.map (some Hb)) (.int .i64 x.h) false).run Tryz.prog W = .ok (V x.h) W := by
    intro W hW
    have k0 : W.heap[Eb]? = some (.cells #[.int .i64 i, .map (some Hb)] 86 (0, 0)) := (hW Eb (by omega) ((HG.out.own x.h hx).tag (by decide) HE.out)).trans ((hbB.block Eb hEl).trans HE.out)
    have k1 : W.heap[w.heap.size]? = _ := (hW w.heap.size (by omega) (fun e => by have := HVl _ e; omega)).trans hB0
    have k2 : W.heap[w.heap.size + 1]? = _ := (hW (w.heap.size + 1) (by omega) (fun e => by have := HVl _ e; omega)).trans hB1
    have k3 : W.heap[Hb]? = wB.heap[Hb]? := hW Hb (by have := HG.out.lt; omega) (HG.out.ne hx)
    exact ⟨cell_at k0 rfl, cell_at k1 rfl, cell_at k2 rfl, cell_at k2 rfl, cell_at k2 rfl, hlk W (ownsMap_at hD k3)⟩
  refine wpAnyX_step (i := 14) (by kernel_rfl) rfl (by kernel_rfl) (fun K hK => ?_)
  go_simp
  refine hK.out _ _ (g0 _ (fun j hj _ => Below.heap_alloc wB.drew _ j (by show j < wB.heap.size; omega))) ?_
  clear hK K hH
  try simp only [Act.put, zA0, zZ0, zS0]
  refine wpAnyX_step (i := 15) (by kernel_rfl) rfl (by kernel_rfl) (fun K hK => ?_)
  refine step_own rfl (.tmp 26) (.tmp 28) 41 rfl 78 i0 _ 3 24 Tryz.underlying41 hi hz0 hz1 hz2 rfl (by decide) base (V x.h) (T x.h).length (wcells (T x.h)) (by simp [Act.eval]) (by exact (hGB.own x.h hx).other (fun g _ hlt => Below.heap_alloc wB.drew _ _ hlt)) ⟨w.heap.size + 2, 0, none⟩ 1 [.int .i64 i, .int .i64 x.p, .bool x.b] (by simp [Act.eval, hsB]) rfl (by exact hbox_cells wB.drew ⟨i, x.p, x.b⟩ _ (by show _ = wB.heap.size; omega)) (word_oneCell ⟨i, x.p, x.b⟩) (by unfold maxLen; omega) (by omega) (by show base ≤ (wB.alloc _).heap.size; simp; omega) ?_
  intro g' o' cap' w2 hown' hfr
  have hfr2 : ∀ j, j < w.heap.size + 2 → (V x.h).ownBlock ≠ some j → w2.heap[j]? = wB.heap[j]? := fun j hj hne => (hfr.other j (by show j < (wB.alloc _).heap.size; simp; omega) hne).trans (Below.heap_alloc wB.drew _ j (by show j < wB.heap.size; omega))
  have hs2 : wB.heap.size + 1 ≤ w2.heap.size := by have := hfr.size; simp at this; exact this
  have hH := g0 w2 hfr2
  have hown2 : OwnR w2 base 78 3 (.slice (some ⟨g', o', none⟩) ((T x.h).length + 1) cap') (T x.h ++ [(⟨i, x.p, x.b⟩ : W3)]).length (wcells (T x.h ++ [(⟨i, x.p, x.b⟩ : W3)])) := by
    rw [wcells_append, List.length_append]; exact hown'
  obtain ⟨w3, hrun, hG3, hgr3⟩ := HG.out.store (w2 := w2) (v' := .slice (some ⟨g', o', none⟩) ((T x.h).length + 1) cap') (g' := g') (l' := T x.h ++ [(⟨i, x.p, x.b⟩ : W3)]) lawI Tryz.underlying57 eqI_iff kI_inj hx (keyI x.h hx) (by unfold maxLen; omega) (by omega) (fun j hj hne => (hfr2 j (by omega) hne).trans (hbB.block j hj)) hown2 rfl (by rcases hfr.new with h | h; exact Or.inl h; right; simp at h; omega) (by simp)
  have hos : w2.os = wB.os ∧ w2.tape = wB.tape ∧ w2.output = wB.output := ⟨hfr.os, hfr.tape, hfr.output⟩
  refine hK.out _ _ hH ?_
  clear hK K hH
  try simp only [Act.put, zA0, zZ0, zS0]
  refine wpAnyX_last (i := 16) (by kernel_rfl) rfl (by kernel_rfl) (by kernel_rfl) (fun K hK => ?_)
  go_simp
  refine hK.out _ _ ?_
  clear hK K
  go_end0
  have hsz3 : w2.heap.size ≤ w3.heap.size := hgr3.size
  refine ⟨rfl, ⟨_, hG3⟩, by omega, ?_, ?_, ?_, ?_⟩
  · intro g hg hgH hgV
    rw [hgr3.block g (by omega) (fun e => hgH (by simpa using e)), hfr2 g (by omega) hgV]
    exact hbB.block g hg
  · rw [hgr3.os, hos.1]; exact hbB.os
  · rw [hgr3.tape, hos.2.1]; exact hbB.tape
  · rw [hgr3.output, hos.2.2]; exact hbB.output
end Go.Proofs.YtilcmkiihefkkabGreatDoor.Mn
end
