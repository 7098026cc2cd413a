import Derived.Test.YtilcmkiihefkkaaPParA
import Derived.Laws.BytesString
set_option linter.unusedVariables false
set_option linter.unusedSimpArgs false
set_option maxRecDepth 100000
namespace Go.Proofs.Ytilcmkiihefkkaa
open Go.RowKit

theorem bytes_text {w : World} {base n : Nat} {ao : Option Addr} {c : Nat} {bs : List UInt8} (hn : bs.length = n) (h : OwnR w base 5 1 (.slice ao n c) n (Lib.byteCells bs)) :
    (convert 72 9 (.slice ao n c)).run Try.prog w = .ok (.string ⟨bs.toArray⟩) w := by
  rcases h.2 with ⟨h1, h0⟩ | ⟨g, o, cap, cur, h1, _, h2, _, _, _, h6⟩
  · have hb : bs = [] := List.eq_nil_of_length_eq_zero (by omega)
    subst hb
    simp only [Value.slice.injEq] at h1
    obtain ⟨rfl, rfl, rfl⟩ := h1
    exact run_convert_bytes_nil w 72 5 Try.underlying72 Try.underlying5 0 0 9 Try.underlying9
  · simp only [Value.slice.injEq, true_and] at h1
    obtain ⟨rfl, rfl⟩ := h1
    have := run_convert_bytes_back (P := Try.prog) w 72 9 5 ⟨g, o, none⟩ c bs Try.underlying72 Try.underlying5 Try.underlying9 (by
      intro j hj
      rw [Addr.add_lit]
      refine cell_at h2 (h6 j _ ?_)
      unfold Lib.byteCells
      rw [List.getElem?_map, List.getElem?_eq_getElem hj]
      rfl)
    rw [hn] at this
    exact this

theorem OwnR.setB {w : World} {base g o n cap : Nat} {X : List S2} (h : OwnR w base 70 2 (.slice (some ⟨g, o, none⟩) n cap) n (qcells X)) (hX : X.length = n) (j : Nat) (hj : j < n) (b : ByteArray) :
    OwnR (w.setCell ⟨g, o + j * 2 + 1, none⟩ (.string b)) base 70 2 (.slice (some ⟨g, o, none⟩) n cap) n (qcells (X.set j ⟨(X[j]'(by omega)).n, b⟩)) := by
  obtain ⟨h0, h⟩ := h
  refine ⟨by rw [qcells_length] at h0 ⊢; rw [List.length_set]; exact h0, ?_⟩
  rcases h with ⟨h, _⟩ | ⟨g', o', cap', cur, he, h1, h2, h3, h4, h5, h6⟩
  · simp at h
  · simp only [Value.slice.injEq, Option.some.injEq, Addr.mk.injEq, and_true, true_and] at he
    obtain ⟨⟨rfl, rfl⟩, rfl⟩ := he
    have hU := Upd.of_setCell (i := o + j * 2 + 1) (.string b) h2
    refine Or.inr ⟨g, o, cap, _, rfl, h1, hU.here, h3, h4, by simpa using h5, ?_⟩
    rw [qcells_iff] at h6 ⊢
    intro q hq
    rw [List.length_set] at hq
    have hcap : o + n * 2 ≤ cur.size := Nat.le_trans (Nat.add_le_add_left (Nat.mul_le_mul_right 2 h3) o) h5
    have := h6 q hq
    by_cases hqj : q = j
    · subst hqj
      simp only [List.getElem_set_self]
      refine ⟨?_, ?_⟩
      · rw [Array.getElem?_setIfInBounds_ne (by omega)]; exact this.1
      · rw [show o + (2 * q + 1) = o + q * 2 + 1 by omega, Array.getElem?_setIfInBounds_self_of_lt (by omega)]
    · have hne : j ≠ q := fun h => hqj h.symm
      rw [List.getElem_set_ne hne]
      refine ⟨?_, ?_⟩
      · rw [Array.getElem?_setIfInBounds_ne (by omega)]; exact this.1
      · rw [Array.getElem?_setIfInBounds_ne (by omega)]; exact this.2

/-- what 'finish' leaves alone -/
structure FFr (w w' : World) (sv : Value) (B : Nat) : Prop where
  os : w'.os = w.os
  tape : w'.tape = w.tape
  output : w'.output = w.output
  size : w'.heap.size = w.heap.size
  other : ∀ j, j ≠ B → sv.ownBlock ≠ some j → w'.heap[j]? = w.heap[j]?

set_option maxHeartbeats 1000000 in
set_option maxRecDepth 100000 in
theorem finish_nil (B : Nat) (ao : Option Addr) (c : Nat) (mv bv : Value) (w : World)
    (hB : w.heap[B]? = some (.cells #[.slice ao 0 c, mv, bv] 74 (0, 0))) :
    Calls Try.prog 35 #[.pointer (some ⟨B, 0, none⟩)] w fun e w' => e = .returned (.tuple #[]) ∧ w' = w := by
  have c0 : w.cell? ⟨B, 0, none⟩ = some (.slice ao 0 c) := cell_at hB rfl
  clear hB
  go_enter Try.func35, Try.ntmps35
  go_wp2
  (try simp only [Exit.inBlock, Exit.then])
  refine bodyPost_ret (results_none rfl _ _ _) rfl ?_
  exact ⟨rfl, rfl⟩

set_option maxHeartbeats 2000000 in
set_option maxRecDepth 100000 in
theorem finish_some (B base m n g o sc bc : Nat) (bao : Option Addr) (mv : Value) (A : List S2) (y : S2) (hA : A.length = m) (bs : List UInt8) (hnl : bs.length = n) (w : World)
    (hB : w.heap[B]? = some (.cells #[.slice (some ⟨g, o, none⟩) (m + 1) sc, mv, .slice bao n bc] 74 (0, 0)))
    (hs : OwnR w base 70 2 (.slice (some ⟨g, o, none⟩) (m + 1) sc) (m + 1) (qcells (A ++ [y])))
    (hb : OwnR w base 5 1 (.slice bao n bc) n (Lib.byteCells bs)) (hn : n ≤ 1000000000) (hm : m ≤ 1000000000) (hbc : (bc : Int) ≤ 9223372036854775807) :
    Calls Try.prog 35 #[.pointer (some ⟨B, 0, none⟩)] w fun e w' => e = .returned (.tuple #[]) ∧
      w'.heap[B]? = some (.cells #[.slice (some ⟨g, o, none⟩) (m + 1) sc, mv, .slice bao 0 bc] 74 (0, 0)) ∧
      OwnR w' base 70 2 (.slice (some ⟨g, o, none⟩) (m + 1) sc) (m + 1) (qcells (A ++ [⟨y.n, ⟨bs.toArray⟩⟩])) ∧ FFr w w' (.slice (some ⟨g, o, none⟩) (m + 1) sc) B := by
  have c0 : w.cell? ⟨B, 0, none⟩ = some (.slice (some ⟨g, o, none⟩) (m + 1) sc) := cell_at hB rfl
  have c2 : w.cell? ⟨B, 2, none⟩ = some (.slice bao n bc) := cell_at hB rfl
  have f2 : w.frozen? ⟨B, 2, none⟩ = false := frozen_of_row _ _ _ _ _ hB
  have hcv := bytes_text hnl (w := w.drew) (hb.other (fun _ _ _ => rfl))
  obtain ⟨cur, hgc, hgs⟩ : ∃ cur, w.heap[g]? = some (.cells cur 70 (0, 0)) ∧ o + (m + 1) * 2 ≤ cur.size := by
    rcases hs.2 with ⟨h, _⟩ | ⟨g', o', cap, cur, h, _, h2, h3, _, h5, _⟩
    · simp at h
    · simp only [Value.slice.injEq, Option.some.injEq, Addr.mk.injEq, and_true, true_and] at h
      obtain ⟨⟨rfl, rfl⟩, rfl⟩ := h
      exact ⟨cur, h2, Nat.le_trans (Nat.add_le_add_left (Nat.mul_le_mul_right 2 h3) o) h5⟩
  obtain ⟨b1, b2⟩ := hs.seqs m (by rw [List.length_append, hA]; simp)
  have hgB : g ≠ B := fun e => by subst e; rw [hB] at hgc; simp at hgc
  have hgB' : ¬ B = g := fun e => hgB e.symm
  have fb : w.frozen? ⟨g, o + m * 2 + 1, none⟩ = false := frozen_of_row _ _ _ _ _ hgc
  have hLm : (A ++ [y])[m]'(by rw [List.length_append, hA]; simp) = y := by simp [← hA]
  rw [hLm] at b1 b2
  have hset := hs.setB (by rw [List.length_append, hA]; rfl) m (by omega) ⟨bs.toArray⟩
  have hLS2 : (A ++ [y]).set m ⟨((A ++ [y])[m]'(by rw [List.length_append, hA]; simp)).n, ⟨bs.toArray⟩⟩ = A ++ [⟨y.n, ⟨bs.toArray⟩⟩] := by
    rw [hLm, ← hA]
    simp
  rw [hLS2] at hset
  have HSET : Hid (OwnR (w.setCell ⟨g, o + m * 2 + 1, none⟩ (.string ⟨bs.toArray⟩)) base 70 2 (.slice (some ⟨g, o, none⟩) (m + 1) sc) (m + 1) (qcells (A ++ [⟨y.n, ⟨bs.toArray⟩⟩]))) := hset
  have e1 : ((m + 1 : Nat) : Int) - 1 = m := by omega
  have e2 : (m : Int) < ((m + 1 : Nat) : Int) := by omega
  have e3 : (((m + 1 : Nat) : Int) == 0) = false := by rw [beq_eq_false_iff_ne]; omega
  have HU1 : Hid (Upd w (w.setCell ⟨g, o + m * 2 + 1, none⟩ (.string ⟨bs.toArray⟩)) g _) := Upd.of_setCell (i := o + m * 2 + 1) (.string ⟨bs.toArray⟩) hgc
  have HB1 : (w.setCell ⟨g, o + m * 2 + 1, none⟩ (.string ⟨bs.toArray⟩)).heap[B]? = some (.cells #[.slice (some ⟨g, o, none⟩) (m + 1) sc, mv, .slice bao n bc] 74 (0, 0)) := (HU1.out.other B hgB').trans hB
  have HU2 : Hid (Upd (w.setCell ⟨g, o + m * 2 + 1, none⟩ (.string ⟨bs.toArray⟩)) ((w.setCell ⟨g, o + m * 2 + 1, none⟩ (.string ⟨bs.toArray⟩)).setCell ⟨B, 2, none⟩ (.slice bao 0 bc)) B _) := Upd.of_setCell (i := 2) (.slice bao 0 bc) HB1
  clear hset hLS2 hB hLm hgc hgs hs hb HB1
  go_enter Try.func35, Try.ntmps35
  go_wp2
  go_region
  go_wp2
  go_end0
  refine ⟨rfl, HU2.out.here, HSET.out.other (fun j hj _ => HU2.out.other j (fun e => ?_)), ⟨rfl, rfl, rfl, HU2.out.size.trans HU1.out.size, fun j h1 h2 => (HU2.out.other j h1).trans (HU1.out.other j (fun e => h2 (by simp [Value.ownBlock, e])))⟩⟩
  simp only [Value.ownBlock, Option.some.injEq] at hj
  exact hgB (hj.trans e)

end Go.Proofs.Ytilcmkiihefkkaa
