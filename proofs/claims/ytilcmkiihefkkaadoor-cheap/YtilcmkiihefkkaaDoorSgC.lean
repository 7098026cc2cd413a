import Derived.Test.YtilcmkiihefkkaaDoorSfC
import Derived.Test.YtilcmkiihefkkaaDoorSgB
set_option linter.unusedVariables false
set_option linter.unusedSimpArgs false
set_option maxRecDepth 100000
namespace Go.Proofs.YtilcmkiihefkkaaDoor
open Go.RowKit Go.Shelf

theorem uR_eq (read ref : ByteArray) (i j : Nat) (hi : i < read.size) (hj : j < ref.size) : uB read[i] ref[j] = uR read ref i j := by
  unfold uR
  have h1 : read.data.toList.getD i 0 = read[i] := by
    have : i < read.data.toList.length := by simpa using hi
    rw [List.getD_eq_getElem?_getD, List.getElem?_eq_getElem this]
    rfl
  have h2 : ref.data.toList.getD j 0 = ref[j] := by
    have : j < ref.data.toList.length := by simpa using hj
    rw [List.getD_eq_getElem?_getD, List.getElem?_eq_getElem this]
    rfl
  rw [h1, h2]

theorem lets_snoc (L : List Nat) (l : Nat) : lets (L ++ [l]) = lets L ++ ⟨#[ltr l]⟩ := by
  have := str_append (L.map ltr) [ltr l]
  unfold lets
  rw [List.map_append]
  exact this.symm

theorem nx0c (c : C3) (a : Int) (h : a = aM c) : (c.m = a ∧ nx c 0 = 0 ∧ a = pv c 0) ∨ (¬ c.m = a ∧ c.i = a ∧ nx c 0 = 1 ∧ a = pv c 1) ∨ (¬ c.m = a ∧ ¬ c.i = a ∧ nx c 0 = 2 ∧ a = pv c 2) := by
  obtain ⟨h1, h2⟩ := nx0 c
  rw [← h] at h1 h2
  by_cases m1 : c.m = a
  · rw [if_pos m1] at h1
    rw [← h1] at h2
    exact Or.inl ⟨m1, h1.symm, h2.symm⟩
  · rw [if_neg m1] at h1
    by_cases m2 : c.i = a
    · rw [if_pos m2] at h1
      rw [← h1] at h2
      exact Or.inr (Or.inl ⟨m1, m2, h1.symm, h2.symm⟩)
    · rw [if_neg m2] at h1
      rw [← h1] at h2
      exact Or.inr (Or.inr ⟨m1, m2, h1.symm, h2.symm⟩)

/-- what the whole tables hold -/
def GL (read ref : ByteArray) (W : World) (G : Nat) (vM vI vD : Value) (gM oM gI oI gD oD : Nat) (bM bI bD : Nat → Nat) : Prop :=
  W.cell? ⟨G, 0, none⟩ = some (.string read) ∧ W.cell? ⟨G, 1, none⟩ = some (.string ref) ∧ W.cell? ⟨G, 2, none⟩ = some vM ∧ W.cell? ⟨G, 3, none⟩ = some vI ∧ W.cell? ⟨G, 4, none⟩ = some vD ∧
  (∀ t, t ≤ read.size → W.cell? ⟨gM, oM + t, none⟩ = some (.slice (some ⟨bM t, 0, none⟩) (ref.size + 1) (ref.size + 1)) ∧ W.cell? ⟨gI, oI + t, none⟩ = some (.slice (some ⟨bI t, 0, none⟩) (ref.size + 1) (ref.size + 1)) ∧ W.cell? ⟨gD, oD + t, none⟩ = some (.slice (some ⟨bD t, 0, none⟩) (ref.size + 1) (ref.size + 1))) ∧
  (∀ t k, t ≤ read.size → k ≤ ref.size → W.cell? ⟨bM t, k, none⟩ = some (.int .i64 (cel 1000000000 (uR read ref) t k).m) ∧ W.cell? ⟨bI t, k, none⟩ = some (.int .i64 (cel 1000000000 (uR read ref) t k).i) ∧ W.cell? ⟨bD t, k, none⟩ = some (.int .i64 (cel 1000000000 (uR read ref) t k).d))

theorem TbI.gl {read ref : ByteArray} {w0 w : World} {G : Nat} (h : TbI read ref w0 w G (read.size + 1)) :
    ∃ gM oM cM gI oI cI gD oD cD bM bI bD, ∀ W, Below w.heap.size w W → GL read ref W G (.slice (some ⟨gM, oM, none⟩) (read.size + 1) cM) (.slice (some ⟨gI, oI, none⟩) (read.size + 1) cI) (.slice (some ⟨gD, oD, none⟩) (read.size + 1) cD) gM oM gI oI gD oD bM bI bD := by
  obtain ⟨vM, vI, vD, bM, bI, bD, ht, _, _, hr⟩ := h
  have oM' := ht.oM
  have oI' := ht.oI
  have oD' := ht.oD
  have hG := ht.hG
  obtain ⟨gM, oM, cM, rfl, _, lM⟩ := oM'.addr (by omega)
  obtain ⟨gI, oI, cI, rfl, _, lI⟩ := oI'.addr (by omega)
  obtain ⟨gD, oD, cD, rfl, _, lD⟩ := oD'.addr (by omega)
  refine ⟨gM, oM, cM, gI, oI, cI, gD, oD, cD, bM, bI, bD, fun W hb => ?_⟩
  have hl := lt_of_block hG
  have cl : ∀ (b k : Nat), b < w.heap.size → W.cell? ⟨b, k, none⟩ = w.cell? ⟨b, k, none⟩ := fun b k h => hb.cell (p := ⟨b, k, none⟩) h
  refine ⟨(cl G 0 hl).trans (cell_at hG rfl), (cl G 1 hl).trans (cell_at hG rfl), (cl G 2 hl).trans (cell_at hG rfl), (cl G 3 hl).trans (cell_at hG rfl), (cl G 4 hl).trans (cell_at hG rfl), fun t ht => ⟨?_, ?_, ?_⟩, fun t k ht hk => ⟨?_, ?_, ?_⟩⟩
  · exact (cl gM _ lM).trans (oM'.cell (rowsV_get bM (read.size + 1) ref.size t (by omega)))
  · exact (cl gI _ lI).trans (oI'.cell (rowsV_get bI (read.size + 1) ref.size t (by omega)))
  · exact (cl gD _ lD).trans (oD'.cell (rowsV_get bD (read.size + 1) ref.size t (by omega)))
  · exact (cl _ _ (hr t (by omega)).1.lt).trans ((hr t (by omega)).1.cell k (by omega))
  · exact (cl _ _ (hr t (by omega)).2.1.lt).trans ((hr t (by omega)).2.1.cell k (by omega))
  · exact (cl _ _ (hr t (by omega)).2.2.lt).trans ((hr t (by omega)).2.2.cell k (by omega))

/-- the letters' walk -/
def LtI (read ref : ByteArray) (w wx : World) (i j l : Nat) (cost : Int) (o : ByteArray) : Prop :=
  ∃ (L : List Nat) (f x : Nat), i ≤ read.size ∧ j ≤ ref.size ∧ i + j ≤ f ∧ L.length + (i + j) ≤ read.size + ref.size ∧ l = nx (cel 1000000000 (uR read ref) i j) x ∧ cost = pv (cel 1000000000 (uR read ref) i j) l ∧ o = lets L ∧
    L ++ path 1000000000 (uR read ref) f i j x = path 1000000000 (uR read ref) (read.size + ref.size) read.size ref.size 0 ∧ Below w.heap.size w wx

theorem LtI.step {read ref : ByteArray} {w wx w' : World} {i j l : Nat} {cost : Int} {o : ByteArray} (hr : read.size ≤ 300) (hf : ref.size ≤ 600) (h : LtI read ref w wx i j l cost o) (hp : 0 < i + j) (hb : Below w.heap.size w w') (i' j' l' : Nat) (cost' : Int) (hi' : i' = if l = 2 then i else i - 1) (hj' : j' = if l = 1 then j else j - 1)
    (hl' : l' = nx (cel 1000000000 (uR read ref) i' j') l) (hc' : cost' = pv (cel 1000000000 (uR read ref) i' j') l') : LtI read ref w w' i' j' l' cost' (o ++ ⟨#[ltr l]⟩) := by
  obtain ⟨L, f, x, h1, h2, h3, h4, h5, h6, h7, h8, h9⟩ := h
  obtain ⟨f', rfl⟩ : ∃ f', f = f' + 1 := ⟨f - 1, by omega⟩
  have hrc := nx_reach 1000000000 (by omega) (cel 1000000000 (uR read ref) i j) i j (by omega) (by omega) (cel_ok 1000000000 (by omega) (uR read ref) (uR_bd read ref) i j (by omega) (by omega)) hp x
  have hle := nx_le (cel 1000000000 (uR read ref) i j) x
  rw [← h5] at hrc hle
  have hii : i' ≤ i := by rw [hi']; split <;> omega
  have hjj : j' ≤ j := by rw [hj']; split <;> omega
  have hdec : i' + j' + 1 ≤ i + j := by
    rcases (show l = 0 ∨ l = 1 ∨ l = 2 by omega) with h0 | h0 | h0
    · have := hrc.1 h0
      rw [h0] at hi' hj'; simp at hi' hj'; omega
    · have := hrc.2.1 h0
      rw [h0] at hi' hj'; simp at hi' hj'; omega
    · have := hrc.2.2 h0
      rw [h0] at hi' hj'; simp at hi' hj'; omega
  refine ⟨L ++ [l], f', l, by omega, by omega, by omega, by simp; omega, hl', hc', by rw [lets_snoc, h7], ?_, hb⟩
  rw [path, if_neg (by omega), ← h5, ← hi', ← hj'] at h8
  rw [List.append_assoc]; exact h8
end Go.Proofs.YtilcmkiihefkkaaDoor
