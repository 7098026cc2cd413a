import Derived.Test.YtilcmkiihefkkaaBookA
set_option linter.unusedVariables false
set_option linter.unusedSimpArgs false
set_option maxRecDepth 100000
namespace Go.Proofs.Ytilcmkiihefkkaa
open Go.RowKit

/-- the book while a list is taken in: 'vs' are the lists that are written down, 'lv' the one at hand -/
structure BkI (w0 : World) (base Bb k n : Nat) (v0 wv0 : Value) (E : List (Value × Int)) (vs : List Value) (c : Nat) (lv wv : Value) (w : World) : Prop where
  book : w.heap[Bb]? = some (Obj.cells #[.slice none 0 0, wv, .slice none 0 0, .slice none 0 0, .slice none 0 0] 34 (0, 0))
  ent : OwnR w base 82 2 wv (E.length + vs.length) (ecells (E ++ vs.map fun v => (v, (k : Int))))
  cur : OwnR w base 50 3 lv (n + c) (wcells (marks (n + c) k))
  sl : ∀ v ∈ vs, ∃ i, i ≤ c ∧ OwnR w base 50 3 v (n + i) (wcells (marks (n + i) k)) ∧ ∀ g, v.ownBlock = some g → lv.ownBlock = some g → offOf v = offOf lv
  mark : w.heap[w0.heap.size]? = some (Obj.cells #[.int .i64 (-1 - (k : Int)), .int .i64 0, .bool false] 50 (0, 0))
  nm : ∀ v, v = lv ∨ v ∈ vs → v.ownBlock ≠ some w0.heap.size ∧ ∀ g, v.ownBlock = some g → v0.ownBlock = some g ∨ w0.heap.size < g
  nw : ∀ g, wv.ownBlock = some g → wv0.ownBlock = some g ∨ w0.heap.size < g
  os : w.os = w0.os
  tape : w.tape = w0.tape
  output : w.output = w0.output
  size : w0.heap.size < w.heap.size
  other : ∀ q, q < w0.heap.size → q ≠ Bb → wv0.ownBlock ≠ some q → v0.ownBlock ≠ some q → w.heap[q]? = w0.heap[q]?

theorem marks_snoc (n k : Nat) : wcells (marks n k) ++ [.int .i64 (-1 - (k : Int)), .int .i64 0, .bool false] = wcells (marks (n + 1) k) := by
  unfold marks
  rw [List.replicate_succ', wcells_append]
  rfl

/-- one more is put behind the list at hand -/
theorem BkI.grow {w0 w1 w2 : World} {base Bb k n c g' o' cap' : Nat} {v0 wv0 lv wv : Value} {E : List (Value × Int)} {vs : List Value} {ob : Obj} {w : World} (h : BkI w0 base Bb k n v0 wv0 E vs c lv wv w) (hb : base ≤ w0.heap.size) (hBb : Bb < w0.heap.size)
    (hw1 : w1.heap = (w.alloc ob).heap) (ho : w1.os = w.os) (ht : w1.tape = w.tape) (hou : w1.output = w.output)
    (hown : OwnR w2 base 50 3 (.slice (some ⟨g', o', none⟩) (n + c + 1) cap') (n + c + 1) (wcells (marks (n + c) k) ++ [.int .i64 (-1 - (k : Int)), .int .i64 0, .bool false])) (hf : AppFr2 w1 w2 lv (n + c) 3 g' o') :
    BkI w0 base Bb k n v0 wv0 E vs (c + 1) (.slice (some ⟨g', o', none⟩) (n + c + 1) cap') wv w2 := by
  have hs1 : w1.heap.size = w.heap.size + 1 := by rw [hw1]; simp
  have hsz := h.size
  have hold : ∀ q, q < w.heap.size → w1.heap[q]? = w.heap[q]? := fun q hq => by rw [hw1]; exact Below.heap_alloc _ _ _ hq
  have hne50 : ∀ q cs t, t ≠ 50 → w.heap[q]? = some (Obj.cells cs t (0, 0)) → w2.heap[q]? = some (Obj.cells cs t (0, 0)) := fun q cs t ht' hq => by
    have hlt := lt_of_block hq
    rw [hf.fr.other q (by omega) (h.cur.tag ht' hq), hold q hlt]
    exact hq
  have hlvlt : ∀ g, lv.ownBlock = some g → g < w.heap.size := fun g hg => (h.cur.lt hg).2
  refine ⟨hne50 _ _ _ (by decide) h.book, ?_, ?_, ?_, ?_, ?_, h.nw, hf.fr.os.trans (ho.trans h.os), hf.fr.tape.trans (ht.trans h.tape), hf.fr.output.trans (hou.trans h.output), by have := hf.fr.size; omega, ?_⟩
  · -- the entries lie in a row of their own kind
    refine h.ent.other (fun g hg hlt => ?_)
    obtain ⟨_, hh⟩ := h.ent
    rcases hh with ⟨rfl, _⟩ | ⟨g2, o2, cap2, cur2, rfl, _, h2, _⟩
    · simp [Value.ownBlock] at hg
    · simp only [Value.ownBlock, Option.some.injEq] at hg
      subst hg
      rw [hne50 _ _ _ (by decide) h2, h2]
  · rw [← Nat.add_assoc, ← marks_snoc]
    exact hown
  · intro v hv
    obtain ⟨i, hi, hov, hcp⟩ := h.sl v hv
    refine ⟨i, by omega, (hov.other (fun g _ hlt => hold g hlt)).app hf (fun g hg1 hg2 => ?_), ?_⟩
    · have := hcp g hg1 hg2
      have : n + i ≤ n + c := by omega
      have := Nat.mul_le_mul_right 3 this
      omega
    · intro g hg1 hg2
      simp only [Value.ownBlock, Option.some.injEq] at hg2
      subst hg2
      show offOf v = o'
      rcases hf.fr.new with hl | hl
      · rw [hcp g' hg1 hl, hf.off hl]
      · have := (hov.lt hg1).2
        omega
  · have hne : lv.ownBlock ≠ some w0.heap.size := (h.nm lv (Or.inl rfl)).1
    rw [hf.fr.other _ (by omega) hne, hold _ hsz]
    exact h.mark
  · intro v hv
    rcases hv with rfl | hv
    · constructor
      · intro he
        simp only [Value.ownBlock, Option.some.injEq] at he
        rcases hf.fr.new with hl | hl
        · exact (h.nm lv (Or.inl rfl)).1 (by rw [hl, he])
        · omega
      · intro g hg
        simp only [Value.ownBlock, Option.some.injEq] at hg
        subst hg
        rcases hf.fr.new with hl | hl
        · exact (h.nm lv (Or.inl rfl)).2 _ hl
        · right; omega
    · exact h.nm v (Or.inr hv)
  · intro q hq h1 h2 h3
    rw [hf.fr.other q (by omega) (fun he => ?_), hold q (by omega)]
    · exact h.other q hq h1 h2 h3
    · rcases (h.nm lv (Or.inl rfl)).2 q he with h4 | h4
      · exact h3 h4
      · omega

/-- the list at hand is written down -/
theorem BkI.note {w0 w1 w2 : World} {base Bb k n c g' o' cap' : Nat} {v0 wv0 lv wv : Value} {E : List (Value × Int)} {vs : List Value} {ob : Obj} {w : World} (h : BkI w0 base Bb k n v0 wv0 E vs c lv wv w) (hb : base ≤ w0.heap.size) (hBb : Bb < w0.heap.size)
    (hw1 : w1.heap = (w.alloc ob).heap) (ho : w1.os = w.os) (ht : w1.tape = w.tape) (hou : w1.output = w.output)
    (hown : OwnR w2 base 82 2 (.slice (some ⟨g', o', none⟩) (E.length + vs.length + 1) cap') (E.length + vs.length + 1) (ecells (E ++ vs.map fun v => (v, (k : Int))) ++ [lv, .int .i64 k])) (hf : AppFr2 w1 w2 wv (E.length + vs.length) 2 g' o') :
    BkI w0 base Bb k n v0 wv0 E (vs ++ [lv]) c lv (.slice (some ⟨g', o', none⟩) (E.length + vs.length + 1) cap') (w2.setCell ⟨Bb, 1, none⟩ (.slice (some ⟨g', o', none⟩) (E.length + vs.length + 1) cap')) := by
  have hs1 : w1.heap.size = w.heap.size + 1 := by rw [hw1]; simp
  have hsz := h.size
  have hold : ∀ q, q < w.heap.size → w1.heap[q]? = w.heap[q]? := fun q hq => by rw [hw1]; exact Below.heap_alloc _ _ _ hq
  have hne68 : ∀ q cs t, t ≠ 82 → w.heap[q]? = some (Obj.cells cs t (0, 0)) → w2.heap[q]? = some (Obj.cells cs t (0, 0)) := fun q cs t ht' hq => by
    have hlt := lt_of_block hq
    rw [hf.fr.other q (by omega) (h.ent.tag ht' hq), hold q hlt]
    exact hq
  have hU := Upd.of_setCell (i := 1) (.slice (some ⟨g', o', none⟩) (E.length + vs.length + 1) cap') (hne68 _ _ _ (by decide) h.book)
  have h50 : ∀ u nu xs, OwnR w base 50 3 u nu xs → OwnR (w2.setCell ⟨Bb, 1, none⟩ (.slice (some ⟨g', o', none⟩) (E.length + vs.length + 1) cap')) base 50 3 u nu xs := fun u nu xs hu => by
    refine hu.other (fun g hg hlt => ?_)
    obtain ⟨_, hh⟩ := hu
    rcases hh with ⟨rfl, _⟩ | ⟨g2, o2, cap2, cur2, rfl, _, h2, _⟩
    · simp [Value.ownBlock] at hg
    · simp only [Value.ownBlock, Option.some.injEq] at hg
      subst hg
      rw [hU.other _ (fun e => by subst e; rw [h.book] at h2; simp at h2), hne68 _ _ _ (by decide) h2, h2]
  refine ⟨hU.here, ?_, h50 _ _ _ h.cur, ?_, ?_, ?_, ?_, hU.os.trans (hf.fr.os.trans (ho.trans h.os)), hU.tape.trans (hf.fr.tape.trans (ht.trans h.tape)), hU.output.trans (hf.fr.output.trans (hou.trans h.output)), by rw [hU.size]; have := hf.fr.size; omega, ?_⟩
  · have e1 : ecells (E ++ (vs ++ [lv]).map fun v => (v, (k : Int))) = ecells (E ++ vs.map fun v => (v, (k : Int))) ++ [lv, .int .i64 k] := by
      rw [List.map_append, ← List.append_assoc, ecells_append]
      rfl
    rw [e1, List.length_append, show E.length + (vs.length + [lv].length) = E.length + vs.length + 1 by simp; omega]
    exact hown.other (fun g hg _ => hU.other g (fun e => by
      subst e
      exact hown.tag (by decide) (hne68 _ _ _ (by decide) h.book) hg))
  · intro v hv
    rw [List.mem_append] at hv
    rcases hv with hv | hv
    · obtain ⟨i, hi, hov, hcp⟩ := h.sl v hv
      exact ⟨i, hi, h50 _ _ _ hov, hcp⟩
    · simp only [List.mem_singleton] at hv
      subst hv
      exact ⟨c, Nat.le_refl _, h50 _ _ _ h.cur, fun _ _ _ => rfl⟩
  · rw [hU.other _ (by omega)]
    exact hne68 _ _ _ (by decide) h.mark
  · intro v hv
    rcases hv with rfl | hv
    · exact h.nm v (Or.inl rfl)
    · rw [List.mem_append] at hv
      rcases hv with hv | hv
      · exact h.nm v (Or.inr hv)
      · simp only [List.mem_singleton] at hv
        subst hv
        exact h.nm v (Or.inl rfl)
  · intro g hg
    simp only [Value.ownBlock, Option.some.injEq] at hg
    subst hg
    rcases hf.fr.new with hl | hl
    · exact h.nw _ hl
    · right; omega
  · intro q hq h1 h2 h3
    rw [hU.other q h1, hf.fr.other q (by omega) (fun he => ?_), hold q (by omega)]
    · exact h.other q hq h1 h2 h3
    · rcases h.nw q he with h4 | h4
      · exact h2 h4
      · omega
end Go.Proofs.Ytilcmkiihefkkaa
