import Derived.Test.YtilcmkiihefkkaaDoorSgC
set_option linter.unusedVariables false
set_option linter.unusedSimpArgs false
set_option maxRecDepth 100000
namespace Go.Proofs.YtilcmkiihefkkaaDoor
open Go.RowKit Go.Shelf

/-- are two bases the same, by their places -/
def sR (read ref : ByteArray) (i j : Nat) : Bool := sB (read.data.toList.getD i 0) (ref.data.toList.getD j 0)

theorem getD_ba (s : ByteArray) (i : Nat) (h : i < s.size) : s.data.toList.getD i 0 = s[i] := by
  have : i < s.data.toList.length := by simpa using h
  rw [List.getD_eq_getElem?_getD, List.getElem?_eq_getElem this]
  rfl

theorem sR_eq (read ref : ByteArray) (i j : Nat) (hi : i < read.size) (hj : j < ref.size) : sB read[i] ref[j] = sR read ref i j := by
  unfold sR
  rw [getD_ba read i hi, getD_ba ref j hj]

theorem stF_ge : ∀ (L : List Nat) (p : Nat × Nat), p.1 ≤ (L.foldl stF p).1 ∧ p.2 ≤ (L.foldl stF p).2
  | [], p => ⟨Nat.le_refl _, Nat.le_refl _⟩
  | l :: L, p => by
    have h := stF_ge L (stF p l)
    have h1 : p.1 ≤ (stF p l).1 := by unfold stF; simp only; split <;> omega
    have h2 : p.2 ≤ (stF p l).2 := by unfold stF; simp only; split <;> omega
    exact ⟨Nat.le_trans h1 h.1, Nat.le_trans h2 h.2⟩

/-- the document's letters, from the beginning -/
def fwd (read ref : ByteArray) : List Nat := (path 1000000000 (uR read ref) (read.size + ref.size) read.size ref.size 0).reverse

theorem fwd_end (read ref : ByteArray) (hn : read.size ≤ 300) (hm : ref.size ≤ 600) : (fwd read ref).foldl stF (0, 0) = (read.size, ref.size) :=
  ends_pos _ _ _ (path_ends 1000000000 (by omega) (uR read ref) (uR_bd read ref) _ _ _ 0 hn hm (Nat.le_refl _))

theorem fwd_at (read ref : ByteArray) (hn : read.size ≤ 300) (hm : ref.size ≤ 600) (k : Nat) (hk : k < (fwd read ref).length) :
    let p := ((fwd read ref).take k).foldl stF (0, 0)
    (stF p ((fwd read ref).getD k 9)).1 ≤ read.size ∧ (stF p ((fwd read ref).getD k 9)).2 ≤ ref.size := by
  have h := fwd_end read ref hn hm
  have e : fwd read ref = (fwd read ref).take k ++ ((fwd read ref).getD k 9 :: (fwd read ref).drop (k + 1)) := by
    have h1 : (fwd read ref).getD k 9 = (fwd read ref)[k] := by simp [hk]
    rw [h1]
    have := List.take_append_drop k (fwd read ref)
    rw [List.drop_eq_getElem_cons hk] at this
    exact this.symm
  rw [e, List.foldl_append, List.foldl_cons] at h
  have g := stF_ge ((fwd read ref).drop (k + 1)) (stF (((fwd read ref).take k).foldl stF (0, 0)) ((fwd read ref).getD k 9))
  rw [h] at g
  exact g

theorem lets_cons (l : Nat) (L : List Nat) : lets (l :: L) = ⟨#[ltr l]⟩ ++ lets L := by
  have := str_append [ltr l] (L.map ltr)
  unfold lets
  rw [List.map_cons]
  exact this.symm

theorem take_rev_succ (L : List Nat) (k : Nat) (h : k < L.length) : (L.take (k + 1)).reverse = L.getD k 9 :: (L.take k).reverse := by
  rw [List.take_succ_eq_append_getElem h, List.reverse_append]
  simp [h]
end Go.Proofs.YtilcmkiihefkkaaDoor
