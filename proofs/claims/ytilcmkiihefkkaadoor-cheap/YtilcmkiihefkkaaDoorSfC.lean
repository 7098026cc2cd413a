import Derived.Test.YtilcmkiihefkkaaDoorSfB
set_option linter.unusedVariables false
set_option linter.unusedSimpArgs false
set_option maxRecDepth 100000
namespace Go.Proofs.YtilcmkiihefkkaaDoor
open Go.RowKit Go.Shelf

/-- the tables' first i rows are right -/
def TbI (read ref : ByteArray) (w wx : World) (G i : Nat) : Prop :=
  ∃ vM vI vD bM bI bD, Tb read ref w.heap.size wx G i i i vM vI vD bM bI bD ∧ w.heap.size ≤ G ∧ Below w.heap.size w wx ∧
    (∀ t, t < i → RP wx (bM t) (ref.size + 1) (ref.size + 1) (fun j => (cel 1000000000 (uR read ref) t j).m) ∧ RP wx (bI t) (ref.size + 1) (ref.size + 1) (fun j => (cel 1000000000 (uR read ref) t j).i) ∧ RP wx (bD t) (ref.size + 1) (ref.size + 1) (fun j => (cel 1000000000 (uR read ref) t j).d))

theorem ok9 {c : C3} {i j : Nat} (h : okC 1000000000 c i j) (hi : i ≤ 300) (hj : j ≤ 600) : okB c := by
  obtain ⟨m, y, d⟩ := c
  unfold okC at h
  unfold YtilcmkiihefkkaaDoor.okB
  simp only at h ⊢
  omega

theorem cel_okB9 (read ref : ByteArray) (i j : Nat) (hi : i ≤ 300) (hj : j ≤ 600) : okB (cel 1000000000 (uR read ref) i j) := ok9 (cel_ok 1000000000 (by omega) (uR read ref) (uR_bd read ref) i j hi hj) hi hj

/-- what the tables hold, where row i is being made -/
def GF (read ref : ByteArray) (W : World) (G i : Nat) (vM vI vD : Value) (gM oM gI oI gD oD : Nat) (bM bI bD : Nat → Nat) : Prop :=
  W.cell? ⟨G, 2, none⟩ = some vM ∧ W.cell? ⟨G, 3, none⟩ = some vI ∧ W.cell? ⟨G, 4, none⟩ = some vD ∧
  (∀ t, t ≤ i → W.cell? ⟨gM, oM + t, none⟩ = some (.slice (some ⟨bM t, 0, none⟩) (ref.size + 1) (ref.size + 1)) ∧ W.cell? ⟨gI, oI + t, none⟩ = some (.slice (some ⟨bI t, 0, none⟩) (ref.size + 1) (ref.size + 1)) ∧ W.cell? ⟨gD, oD + t, none⟩ = some (.slice (some ⟨bD t, 0, none⟩) (ref.size + 1) (ref.size + 1))) ∧
  (∀ t k, t < i → k ≤ ref.size → W.cell? ⟨bM t, k, none⟩ = some (.int .i64 (cel 1000000000 (uR read ref) t k).m) ∧ W.cell? ⟨bI t, k, none⟩ = some (.int .i64 (cel 1000000000 (uR read ref) t k).i) ∧ W.cell? ⟨bD t, k, none⟩ = some (.int .i64 (cel 1000000000 (uR read ref) t k).d))

theorem Tb.gf {read ref : ByteArray} {base : Nat} {w4 W : World} {G i : Nat} {gM oM cM gI oI cI gD oD cD p q r : Nat} {bM bI bD : Nat → Nat}
    (h : Tb read ref base w4 G (i + 1) (i + 1) (i + 1) (.slice (some ⟨gM, oM, none⟩) (i + 1) cM) (.slice (some ⟨gI, oI, none⟩) (i + 1) cI) (.slice (some ⟨gD, oD, none⟩) (i + 1) cD) bM bI bD)
    (hp : ∀ f, RP w4 p (ref.size + 1) 0 f) (hq : ∀ f, RP w4 q (ref.size + 1) 0 f) (hr : ∀ f, RP w4 r (ref.size + 1) 0 f)
    (hrows : ∀ t, t < i → (RP w4 (bM t) (ref.size + 1) (ref.size + 1) (fun j => (cel 1000000000 (uR read ref) t j).m) ∧ RP w4 (bI t) (ref.size + 1) (ref.size + 1) (fun j => (cel 1000000000 (uR read ref) t j).i) ∧ RP w4 (bD t) (ref.size + 1) (ref.size + 1) (fun j => (cel 1000000000 (uR read ref) t j).d)) ∧
      (bM t ≠ p ∧ bM t ≠ q ∧ bM t ≠ r) ∧ (bI t ≠ p ∧ bI t ≠ q ∧ bI t ≠ r) ∧ (bD t ≠ p ∧ bD t ≠ q ∧ bD t ≠ r)) (hb : But3 w4 W p q r) :
    GF read ref W G i (.slice (some ⟨gM, oM, none⟩) (i + 1) cM) (.slice (some ⟨gI, oI, none⟩) (i + 1) cI) (.slice (some ⟨gD, oD, none⟩) (i + 1) cD) gM oM gI oI gD oD bM bI bD := by
  have ne : ∀ {b : Nat} {cs : Array Value} {t : TypeId}, t ≠ 3 → w4.heap[b]? = some (.cells cs t (0, 0)) → b ≠ p ∧ b ≠ q ∧ b ≠ r := by
    intro b cs t ht hbk
    have aux : ∀ c, (∀ f, RP w4 c (ref.size + 1) 0 f) → b ≠ c := by
      intro c hc he
      subst he
      obtain ⟨cur, h1, _⟩ := hc (fun _ => 0)
      rw [h1] at hbk
      simp at hbk
      exact ht hbk.2.symm
    exact ⟨aux p hp, aux q hq, aux r hr⟩
  have blk : ∀ {g o n c : Nat} {xs : List Value}, OwnR w4 base 26 1 (.slice (some ⟨g, o, none⟩) n c) n xs → g ≠ p ∧ g ≠ q ∧ g ≠ r := by
    intro g o n c xs ho
    rcases ho.2 with ⟨h1, _⟩ | ⟨g', o', cap', cur, he, h1, h2, _⟩
    · simp at h1
    · simp only [Value.slice.injEq, Option.some.injEq, Addr.mk.injEq, and_true, true_and] at he
      obtain ⟨⟨rfl, rfl⟩, rfl⟩ := he
      exact ne (by decide) h2
  have cl : ∀ (b k : Nat), (b ≠ p ∧ b ≠ q ∧ b ≠ r) → W.cell? ⟨b, k, none⟩ = w4.cell? ⟨b, k, none⟩ := fun b k h => World.cell?_of_block (hb.other b h.1 h.2.1 h.2.2)
  have nG := ne (by decide) h.hG
  refine ⟨(cl G 2 nG).trans (cell_at h.hG rfl), (cl G 3 nG).trans (cell_at h.hG rfl), (cl G 4 nG).trans (cell_at h.hG rfl), fun t ht => ⟨?_, ?_, ?_⟩, fun t k ht hk => ⟨?_, ?_, ?_⟩⟩
  · exact (cl gM _ (blk h.oM)).trans (h.oM.cell (rowsV_get bM (i + 1) ref.size t (by omega)))
  · exact (cl gI _ (blk h.oI)).trans (h.oI.cell (rowsV_get bI (i + 1) ref.size t (by omega)))
  · exact (cl gD _ (blk h.oD)).trans (h.oD.cell (rowsV_get bD (i + 1) ref.size t (by omega)))
  · exact (cl _ _ (hrows t ht).2.1).trans ((hrows t ht).1.1.cell k (by omega))
  · exact (cl _ _ (hrows t ht).2.2.1).trans ((hrows t ht).1.2.1.cell k (by omega))
  · exact (cl _ _ (hrows t ht).2.2.2).trans ((hrows t ht).1.2.2.cell k (by omega))

end Go.Proofs.YtilcmkiihefkkaaDoor
