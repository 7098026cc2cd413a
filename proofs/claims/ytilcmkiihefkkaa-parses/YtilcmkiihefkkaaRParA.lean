import Derived.Test.YtilcmkiihefkkaaLines
set_option linter.unusedVariables false
set_option linter.unusedSimpArgs false
set_option maxRecDepth 100000
namespace Go.Proofs.Ytilcmkiihefkkaa
open Go.RowKit

/-- the name that a line begins -/
def tl (x : ByteArray) : ByteArray := x.extract 1 x.size

theorem tl_size (x : ByteArray) : (tl x).size ≤ x.size := by
  unfold tl
  rw [ByteArray.size_extract]
  omega

/-- bases more for the last sequence -/
def addB (L : List S2) (x : ByteArray) : List S2 := L.dropLast ++ (L.getLast?.map fun y => ⟨y.n, y.b ++ x⟩).toList

theorem addB_snoc (A : List S2) (y : S2) (x : ByteArray) : addB (A ++ [y]) x = A ++ [⟨y.n, y.b ++ x⟩] := by simp [addB]

theorem snoc_of {L : List S2} (h : L ≠ []) : ∃ A y, L = A ++ [y] := by
  rcases List.eq_nil_or_concat L with h' | ⟨A, y, h'⟩
  · exact absurd h' h
  · exact ⟨A, y, by simpa using h'⟩

def begD (x : ByteArray) : Decidable (begins x) := by unfold begins; infer_instance
def nameD (x : ByteArray) : Decidable (nameOK x) := by unfold nameOK; infer_instance
def hasD (L : List S2) (x : ByteArray) : Decidable (hasN L x) := by unfold hasN; infer_instance
def goodD (x : ByteArray) : Decidable (good x) := by unfold good; infer_instance
def nilD (L : List S2) : Decidable (L = []) := match L with
  | [] => isTrue rfl
  | _ :: _ => isFalse (fun h => by cases h)

/-- one line: the error, and the sequences then -/
def pstep (L : List S2) (x : ByteArray) : Nat × List S2 :=
  @ite _ (begins x) (begD x) (@ite _ (nameOK (tl x)) (nameD (tl x)) (@ite _ (hasN L (tl x)) (hasD L (tl x)) (5, []) (0, L ++ [⟨tl x, ⟨#[]⟩⟩])) (4, []))
    (@ite _ (L = []) (nilD L) (3, []) (@ite _ (good x) (goodD x) (0, addB L x) (2, [])))

/-- all lines: the sequences, the error, the number of the line -/
def parseL : Nat → List S2 → List ByteArray → List S2 × Nat × Nat
  | _, L, [] => (L, 0, 0)
  | i, L, x :: r => if (pstep L x).1 = 0 then parseL (i + 1) (pstep L x).2 r else ([], (pstep L x).1, i)

theorem pstep_name {L : List S2} {x : ByteArray} (h : begins x) (h1 : ¬ nameOK (tl x)) : pstep L x = (4, []) := by
  unfold pstep; rw [if_pos h, if_neg h1]
theorem pstep_twice {L : List S2} {x : ByteArray} (h : begins x) (h1 : nameOK (tl x)) (h2 : hasN L (tl x)) : pstep L x = (5, []) := by
  unfold pstep; rw [if_pos h, if_pos h1, if_pos h2]
theorem pstep_begin {L : List S2} {x : ByteArray} (h : begins x) (h1 : nameOK (tl x)) (h2 : ¬ hasN L (tl x)) : pstep L x = (0, L ++ [⟨tl x, ⟨#[]⟩⟩]) := by
  unfold pstep; rw [if_pos h, if_pos h1, if_neg h2]
theorem pstep_line {L : List S2} {x : ByteArray} (h : ¬ begins x) (h1 : L = []) : pstep L x = (3, []) := by
  unfold pstep; rw [if_neg h, if_pos h1]
theorem pstep_byte {L : List S2} {x : ByteArray} (h : ¬ begins x) (h1 : L ≠ []) (h2 : ¬ good x) : pstep L x = (2, []) := by
  unfold pstep; rw [if_neg h, if_neg h1, if_neg h2]
theorem pstep_bases {L : List S2} {x : ByteArray} (h : ¬ begins x) (h1 : L ≠ []) (h2 : good x) : pstep L x = (0, addB L x) := by
  unfold pstep; rw [if_neg h, if_neg h1, if_pos h2]

theorem parseL_err {i : Nat} {L : List S2} {x : ByteArray} {r : List ByteArray} {e : Nat} (h : pstep L x = (e, [])) (he : e ≠ 0) : parseL i L (x :: r) = ([], e, i) := by
  rw [parseL, h, if_neg he]
theorem parseL_ok {i : Nat} {L L' : List S2} {x : ByteArray} {r : List ByteArray} (h : pstep L x = (0, L')) : parseL i L (x :: r) = parseL (i + 1) L' r := by
  rw [parseL, h, if_pos rfl]

theorem linesA_size : ∀ (l cur : List UInt8), ∀ x ∈ linesA cur l, x.length ≤ cur.length + l.length
  | [], cur, x, h => by
    rw [linesA] at h
    split at h
    · simp at h
    · simp at h; subst h; simp
  | c :: r, cur, x, h => by
    rw [linesA] at h
    split at h
    · rw [List.mem_cons] at h
      rcases h with rfl | h
      · simp
      · have := linesA_size r [] x h
        simp at this ⊢
        omega
    · have := linesA_size r (cur ++ [c]) x h
      simp at this ⊢
      omega

theorem linesB_size (s : ByteArray) : ∀ x ∈ linesB s, x.size ≤ s.size := by
  intro x hx
  unfold linesB at hx
  rw [List.mem_map] at hx
  obtain ⟨l, hl, rfl⟩ := hx
  have := linesA_size s.data.toList [] l hl
  rw [list_len] at this
  show l.toArray.size ≤ _
  simp at this ⊢
  exact this

theorem linesB_length (s : ByteArray) : (linesB s).length ≤ s.size := by
  unfold linesB
  rw [List.length_map]
  have := linesB_length_le s.data.toList []
  rw [list_len] at this
  simpa using this

theorem addB_length (L : List S2) (x : ByteArray) : (addB L x).length = L.length := by
  by_cases h : L = []
  · subst h; rfl
  · obtain ⟨A, y, rfl⟩ := snoc_of h
    rw [addB_snoc]
    simp

theorem Try.info70 : (Try.prog.info? 70).map (fun i => (i.zero, i.size, i.bytes)) = some (some (.agg #[.string ⟨#[]⟩, .string ⟨#[]⟩]), 2, 32) := by kernel_rfl

theorem OwnR.set2 {w : World} {base g o n cap : Nat} {X : List S2} (h : OwnR w base 70 2 (.slice (some ⟨g, o, none⟩) n cap) n (qcells X)) (hX : X.length = n) (j : Nat) (hj : j < n) (y : S2) :
    OwnR ((w.setCell ⟨g, o + j * 2, none⟩ (.string y.n)).setCell ⟨g, o + j * 2 + 1, none⟩ (.string y.b)) base 70 2 (.slice (some ⟨g, o, none⟩) n cap) n (qcells (X.set j y)) := by
  obtain ⟨h0, h⟩ := h
  refine ⟨by rw [qcells_length] at h0 ⊢; rw [List.length_set]; exact h0, ?_⟩
  rcases h with ⟨h, _⟩ | ⟨g', o', cap', cur, he, h1, h2, h3, h4, h5, h6⟩
  · simp at h
  · simp only [Value.slice.injEq, Option.some.injEq, Addr.mk.injEq, and_true, true_and] at he
    obtain ⟨⟨rfl, rfl⟩, rfl⟩ := he
    have hU := (Upd.of_setCell (i := o + j * 2) (.string y.n) h2).setCell (i := o + j * 2 + 1) (.string y.b)
    refine Or.inr ⟨g, o, cap, _, rfl, h1, hU.here, h3, h4, by simpa using h5, ?_⟩
    rw [qcells_iff] at h6 ⊢
    intro q hq
    rw [List.length_set] at hq
    have hcap : o + n * 2 ≤ cur.size := Nat.le_trans (Nat.add_le_add_left (Nat.mul_le_mul_right 2 h3) o) h5
    by_cases hqj : q = j
    · subst hqj
      simp only [List.getElem_set_self]
      refine ⟨?_, ?_⟩
      · rw [Array.getElem?_setIfInBounds_ne (by omega), show o + 2 * q = o + q * 2 by omega, Array.getElem?_setIfInBounds_self_of_lt (by omega)]
      · rw [show o + (2 * q + 1) = o + q * 2 + 1 by omega, Array.getElem?_setIfInBounds_self_of_lt (by simp; omega)]
    · have hne : j ≠ q := fun h => hqj h.symm
      have := h6 q (by omega)
      rw [List.getElem_set_ne hne]
      refine ⟨?_, ?_⟩
      · rw [Array.getElem?_setIfInBounds_ne (by omega), Array.getElem?_setIfInBounds_ne (by omega)]; exact this.1
      · rw [Array.getElem?_setIfInBounds_ne (by omega), Array.getElem?_setIfInBounds_ne (by omega)]; exact this.2

theorem seq_oneCell (x y : ByteArray) : ∀ u ∈ ([.string x, .string y] : List Value), u.oneCell' = true := by
  intro u hu
  simp at hu
  rcases hu with rfl | rfl <;> rfl

theorem pbox_cells (W : World) (x y : Value) (t : TypeId) (s : Nat) (hs : s = W.heap.size) : ∀ j u, ([x, y] : List Value)[j]? = some u → (W.alloc (.cells #[x, y] t)).cell? ((⟨s, 0, none⟩ : Addr).add j) = some u := by
  intro j u hj
  subst hs
  rw [Addr.add_lit, Nat.zero_add]
  refine cell_at (heap_alloc_new W _) ?_
  simpa using hj

/-- the sizes of what is gathered -/
def Small (L : List S2) (k : Nat) : Prop := ∀ y ∈ L, y.b.size ≤ 8000 * k

theorem Small.mono {L : List S2} {k k' : Nat} (h : Small L k) (hk : k ≤ k') : Small L k' := fun y hy => Nat.le_trans (h y hy) (Nat.mul_le_mul_left _ hk)

end Go.Proofs.Ytilcmkiihefkkaa
