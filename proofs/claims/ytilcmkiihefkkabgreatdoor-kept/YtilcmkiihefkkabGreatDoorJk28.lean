import Derived.Test.YtilcmkiihefkkabGreatDoorJk16
import Derived.Test.YtilcmkiihefkkabGreatDoorJk21
section
set_option linter.unusedVariables false
set_option linter.unusedSimpArgs false
set_option maxRecDepth 100000
namespace Go.Proofs.YtilcmkiihefkkabGreatDoor
open Go.RowKit Go.Shelf Go.Lib Go.Sort
theorem numV_length (l : List Nat) : (numV l).length = l.length := by simp [numV]
theorem numV_get (l : List Nat) (j : Nat) (h : j < l.length) : (numV l)[j]? = some (.int .i64 (l.getD j 9 : Nat)) := by
  simp [numV, h]
theorem rev_any (L : List Nat) (n : Nat) (hn : L.length = n) (h2 : n ≤ 1000) (base g o cap : Nat) (w : World) (hown : OwnR w base 3 1 (.slice (some ⟨g, o, none⟩) n cap) n (numV L)) :
    Calls Tryz.prog 137 #[.slice (some ⟨g, o, none⟩) n cap] w fun e w' => e = .returned (.tuple #[]) ∧ OwnR w' base 3 1 (.slice (some ⟨g, o, none⟩) n cap) n (numV L.reverse) ∧ Below g w w' := by
  obtain ⟨h0, h⟩ := hown
  rcases h with ⟨h, _⟩ | ⟨g', o', cap', cur, he, h1, hb, h3, h4, h5, h6⟩
  · simp at h
  · simp only [Value.slice.injEq, Option.some.injEq, Addr.mk.injEq, and_true, true_and] at he
    obtain ⟨⟨rfl, rfl⟩, rfl⟩ := he
    obtain ⟨zs, hzs⟩ : ∃ zs : List Int, zs = L.map (fun (k : Nat) => (k : Int)) := ⟨_, rfl⟩
    have hzl : zs.length = n := by rw [hzs]; simpa using hn
    have hH : Holds (Value.int .i64) w g o zs.toArray := by
      intro j hj
      have hjn : j < L.length := by rw [hzs] at hj; simpa using hj
      refine ⟨cell_at hb ((h6 j _ (numV_get L j hjn)).trans ?_), frozen_of_row _ _ _ _ _ hb⟩
      rw [hzs]
      simp [hjn]
    have hcon := Any.slices_Reverse_int Tryz.laysRev g o cap zs w hH (by omega)
    change Calls Tryz.prog 137 _ _ _ at hcon
    rw [hzl] at hcon
    refine hcon.mono ?_
    rintro e w' ⟨rfl, m, rfl⟩
    have hlt := lt_of_block hb
    have hrl : zs.reverse.length = n := by simpa using hzl
    have hg : (putRow (Value.int .i64) (Sort.ahead w m) g o zs.reverse.toArray).heap[g]? = some (.cells (putCells (Value.int .i64) o zs.reverse.toArray cur) 3 (0, 0)) := by
      unfold putRow mapBlock
      simp only [Array.getElem?_modify, if_true]
      show (w.heap[g]?).map _ = _
      rw [hb]; rfl
    refine ⟨rfl, ⟨by rw [numV_length]; simp [hn], Or.inr ⟨g, o, cap, _, rfl, h1, hg, h3, h4, by simpa [putCells] using h5, fun j u hj => ?_⟩⟩, ⟨rfl, rfl, rfl, ?_, fun j hj => ?_⟩⟩
    · have hjn : j < L.reverse.length := by
        rcases Nat.lt_or_ge j (numV L.reverse).length with h | h
        · rwa [numV_length] at h
        · rw [List.getElem?_eq_none h] at hj; exact absurd hj (by simp)
      rw [numV_get _ _ hjn] at hj
      have hjl : j < n := by simpa [hn] using hjn
      unfold putCells
      rw [Array.getElem?_mapIdx, Array.getElem?_eq_getElem (show o + j < cur.size by omega)]
      simp only [Option.map_some]
      rw [if_pos (by simp; omega), show o + j - o = j by omega, ← hj, hzs]
      have hjm : j < (L.map fun (k : Nat) => (k : Int)).reverse.length := by simpa using hjn
      have hjL : j < L.length := by omega
      simp [hjL]
    · show w.heap.size ≤ (putRow _ _ _ _ _).heap.size
      simp [putRow, mapBlock, Sort.ahead]
    · unfold putRow mapBlock
      simp only [Array.getElem?_modify]
      rw [if_neg (by omega)]; rfl
theorem rev_nil (ao : Option Addr) (cap : Nat) (w : World) : Calls Tryz.prog 137 #[.slice ao 0 cap] w fun e w' => e = .returned (.tuple #[]) ∧ w' = w := Any.slices_Reverse_int_empty Tryz.laysRev ao cap w
end Go.Proofs.YtilcmkiihefkkabGreatDoor
end
