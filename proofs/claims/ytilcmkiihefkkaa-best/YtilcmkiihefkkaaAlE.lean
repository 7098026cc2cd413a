import Derived.Test.YtilcmkiihefkkaaAlB
import Derived.Test.YtilcmkiihefkkaaAlD
set_option linter.unusedVariables false
set_option linter.unusedSimpArgs false
namespace Go.Proofs.Ytilcmkiihefkkaa
open Go.RowKit Go.Shelf Go.Lib Go.Sort

/-- an anchor's two cells -/
def encA (x : Int × Int) : List Value := [.int .i64 x.1, .int .i64 x.2]

theorem flatA (L : List (Int × Int)) (q : Nat) (h : q < L.length) : (flatK encA 2 L.toArray)[2 * q]! = .int .i64 L[q].1 ∧ (flatK encA 2 L.toArray)[2 * q + 1]! = .int .i64 L[q].2 := by
  have e : L.toArray[q]! = L[q] := by simp [h]
  constructor
  · rw [get_flatK _ _ _ _ (by simp; omega), show 2 * q / 2 = q by omega, show 2 * q % 2 = 0 by omega, e]; rfl
  · rw [get_flatK _ _ _ _ (by simp; omega), show (2 * q + 1) / 2 = q by omega, show (2 * q + 1) % 2 = 1 by omega, e]; rfl

theorem OwnR.holdsA {w : World} {t : TypeId} {base g o n cap : Nat} {L : List (Int × Int)} (h : OwnR w base t 2 (.slice (some ⟨g, o, none⟩) n cap) n (acells L)) (hn : L.length = n) : HoldsK encA 2 w g o L.toArray ∧ g < w.heap.size := by
  rcases h.2 with ⟨h, _⟩ | ⟨g', o', cap', cur, he, h1, h2, h3, h4, h5, h6⟩
  · simp at h
  · simp only [Value.slice.injEq, Option.some.injEq, Addr.mk.injEq, and_true, true_and] at he
    obtain ⟨⟨rfl, rfl⟩, rfl⟩ := he
    refine ⟨fun j hj => ⟨?_, frozen_of_row _ _ _ _ _ h2⟩, lt_of_block h2⟩
    simp at hj
    have hq : j / 2 < L.length := by omega
    have hf := flatA L (j / 2) hq
    have ha := acells_at L (j / 2) hq
    rcases (show j = 2 * (j / 2) ∨ j = 2 * (j / 2) + 1 by omega) with he | he
    · rw [he]
      refine cell_at h2 (h6 _ _ ?_)
      rw [ha.1, hf.1]; rfl
    · rw [he]
      refine cell_at h2 (h6 _ _ ?_)
      rw [ha.2, hf.2]; rfl

/-- what a sort leaves -/
theorem OwnR.sortedA {w : World} {t : TypeId} {base g o n cap m : Nat} {L D : List (Int × Int)} {os : Array Obj} (h : OwnR w base t 2 (.slice (some ⟨g, o, none⟩) n cap) n (acells L)) (hL : L.length = n) (hD : D.length = n) :
    OwnR (sortWorldK encA 2 w g o m D.toArray os) base t 2 (.slice (some ⟨g, o, none⟩) n cap) n (acells D) ∧ (∀ j, j < w.heap.size → j ≠ g → (sortWorldK encA 2 w g o m D.toArray os).heap[j]? = w.heap[j]?) ∧ w.heap.size ≤ (sortWorldK encA 2 w g o m D.toArray os).heap.size ∧ (sortWorldK encA 2 w g o m D.toArray os).os = w.os ∧ (sortWorldK encA 2 w g o m D.toArray os).tape = w.tape ∧ (sortWorldK encA 2 w g o m D.toArray os).output = w.output := by
  obtain ⟨h0, h⟩ := h
  rcases h with ⟨h, _⟩ | ⟨g', o', cap', cur, he, h1, h2, h3, h4, h5, h6⟩
  · simp at h
  · simp only [Value.slice.injEq, Option.some.injEq, Addr.mk.injEq, and_true, true_and] at he
    obtain ⟨⟨rfl, rfl⟩, rfl⟩ := he
    have hlt := lt_of_block h2
    have hs1 : (putRowK encA 2 (Sort.ahead w m) g o D.toArray).heap.size = w.heap.size := by simp [putRowK]
    have hold : ∀ j, j < w.heap.size → (sortWorldK encA 2 w g o m D.toArray os).heap[j]? = (putRowK encA 2 (Sort.ahead w m) g o D.toArray).heap[j]? := fun j hj => heap_grow_old _ _ (by rw [hs1]; exact hj)
    refine ⟨⟨by rw [acells_length, hD], Or.inr ⟨g, o, cap, putCells id o (flatK encA 2 D.toArray) cur, rfl, h1, ?_, h3, h4, by simp [putCells]; exact h5, ?_⟩⟩, ?_, ?_, rfl, rfl, rfl⟩
    · rw [hold g hlt]
      show (mapBlock (Sort.ahead w m) g _).heap[g]? = _
      unfold mapBlock
      simp only [Array.getElem?_modify, if_true]
      show (w.heap[g]?).map _ = _
      rw [h2]; rfl
    · rw [acells_iff]
      intro q hq
      have hf := flatA D q hq
      have hb : o + n * 2 ≤ cur.size := Nat.le_trans (Nat.add_le_add_left (Nat.mul_le_mul_right 2 h3) _) h5
      unfold putCells
      rw [Array.getElem?_mapIdx, Array.getElem?_mapIdx, Array.getElem?_eq_getElem (show o + 2 * q < cur.size by omega), Array.getElem?_eq_getElem (show o + (2 * q + 1) < cur.size by omega)]
      simp only [Option.map_some]
      rw [if_pos (by simp; omega), if_pos (by simp; omega), show o + 2 * q - o = 2 * q by omega, show o + (2 * q + 1) - o = 2 * q + 1 by omega, hf.1, hf.2]
      exact ⟨rfl, rfl⟩
    · intro j hj hne
      rw [hold j hj]
      show (mapBlock (Sort.ahead w m) g _).heap[j]? = _
      unfold mapBlock
      simp only [Array.getElem?_modify]
      rw [if_neg (fun e => hne e.symm)]; rfl
    · show _ ≤ (grow _ _).heap.size
      rw [Sort.size_grow, hs1]; omega

theorem ltA (x y : Int × Int) : ltOf cfA x y = befB x y := by
  unfold ltOf
  exact cfA_lt x y

theorem swoA : SWO (ltOf cfA) := {
  irrefl := fun x => by rw [ltA, befB_not]; exact bef_irr x
  trans := fun x y z h1 h2 => by rw [ltA, befB_iff] at *; exact bef_trans h1 h2
  ntrans := fun x y z h1 h2 => by
    rw [ltA, befB_not] at *
    intro h
    rcases bef_tri x y with h3 | h3 | h3
    · exact h1 h3
    · subst h3; exact h2 h
    · exact h2 (bef_trans h3 h) }

theorem sort_any (L : List (Int × Int)) (n : Nat) (hn : L.length = n) (h2 : n ≤ 400) (base g o cap : Nat) (w : World) (hown : OwnR w base 116 2 (.slice (some ⟨g, o, none⟩) n cap) n (acells L)) :
    Calls Try.prog 67 #[.slice (some ⟨g, o, none⟩) n cap, .func (.func 68) #[] #[]] w fun e w' => e = .returned (.tuple #[]) ∧ OwnR w' base 116 2 (.slice (some ⟨g, o, none⟩) n cap) n (acells (L.mergeSort leB)) ∧ (∀ j, j < w.heap.size → j ≠ g → w'.heap[j]? = w.heap[j]?) ∧ w.heap.size ≤ w'.heap.size ∧ w'.os = w.os ∧ w'.tape = w.tape ∧ w'.output = w.output := by
  have eg : ∀ args w, (callFunc 68 args).run Try.prog w = .ok (.enter 68 args) w := enters_of Try.func68 (by kernel_rfl) rfl
  have hH := hown.holdsA hn
  have hc : CmpLays Try.prog 68 #[] encA 2 cfA g o L.toArray.size w := fun _ _ _ _ x y => compareA_any x y _
  have hcon := AnyQ.slices_SortFunc_total Try.sortA 2 Try.isAgg116 Try.sizeOf116 encA (fun _ => rfl) (fun x v hv => by simp [encA] at hv; rcases hv with rfl | rfl <;> rfl) cfA swoA 68 #[] g o cap L.toArray w eg hc hH.1 hH.2 (by simp; omega) (fun x y h1 h2 => by
    rw [ltA, befB_not] at h1 h2
    rcases bef_tri x y with h3 | h3 | h3
    · exact absurd h3 h1
    · exact h3
    · exact absurd h3 h2)
  change Calls Try.prog 67 _ _ _ at hcon
  have hsz : L.toArray.size = n := by simpa using hn
  rw [hsz] at hcon
  refine hcon.mono ?_
  rintro e w' ⟨rfl, m, os, rfl⟩
  have e1 : (L.toArray.toList.mergeSort fun x y => !ltOf cfA y x) = L.mergeSort leB := by
    have : (fun x y => !ltOf cfA y x) = leB := by
      funext x y
      rw [ltA]; rfl
    rw [this]
  rw [e1]
  exact ⟨rfl, hown.sortedA hn (by rw [List.length_mergeSort]; exact hn)⟩
end Go.Proofs.Ytilcmkiihefkkaa
