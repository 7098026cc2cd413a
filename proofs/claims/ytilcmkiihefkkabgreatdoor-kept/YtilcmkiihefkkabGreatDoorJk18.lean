import Derived.BigQuiet
import Derived.Deep.QuietTactic
import Derived.Deep.RegionHeld3
import Derived.Deep.RegionWith
import Derived.Laws.BytesString
import Derived.Lib.BufferWrite
import Derived.Lib.UnsafeStr
import Derived.Maps.Own
import Derived.Maps.OwnOps
import Derived.Maps.OwnSet
import Derived.Maps.Views
import Derived.StringKeys
import Derived.Test.YtilcmkiihefkkabGreatDoorJk11
import Derived.Test.YtilcmkiihefkkabGreatDoorJk15
section
set_option linter.unusedVariables false
set_option linter.unusedSimpArgs false
set_option maxRecDepth 100000
namespace Go.Proofs.YtilcmkiihefkkabGreatDoor.Mn
open Go.RowKit
theorem freeze_below {w : World} {B g n : Nat} (h : B ≤ g) : Below B w (w.freeze ⟨g, 0, none⟩ n) := by
  unfold World.freeze
  split
  · exact Below.refl _ _
  · refine ⟨rfl, rfl, rfl, by simp, ?_⟩
    intro k hk
    simp only [Array.getElem?_modify]
    rw [if_neg (by omega)]
theorem setRow_below {w : World} {B g : Nat} (cs : Array Value) (h : B ≤ g) : Below B w (w.setRow g cs) :=
  ⟨rfl, rfl, rfl, by simp, fun k hk => setRow_other w g k cs (by omega)⟩
theorem clone_text (s : ByteArray) (w1 : World) (g : Nat) (cur : Array Value) (ty : TypeId) (h1 : 1 ≤ s.size) (h2 : s.size ≤ 8000) (hg : w1.heap[g]? = some (.cells cur 5 (0, 0))) (hc : cur.size = s.size) :
    (Builtin.unsafeString_ #[239, 3] ty #[.pointer (some ⟨g, 0, none⟩), .int .i64 s.size]).run Tryz.prog (w1.setRow g (Lib.byteCells s.data.toList ++ List.drop s.size cur.toList).toArray) = .ok (.string s) ((w1.setRow g (Lib.byteCells s.data.toList ++ List.drop s.size cur.toList).toArray).freeze ⟨g, 0, none⟩ s.size) := by
  have hr := setRow_heap w1 g cur (Lib.byteCells s.data.toList ++ List.drop s.size cur.toList).toArray 5 (0, 0) hg
  have hl := list_len s
  have hlen : (Lib.byteCells s.data.toList ++ List.drop s.size cur.toList).toArray.size = s.size := by simp [Lib.byteCells_length]; omega
  have := Lib.run_unsafeString_row (P := Tryz.prog) (w1.setRow g (Lib.byteCells s.data.toList ++ List.drop s.size cur.toList).toArray) 239 3 ty 5 Tryz.underlying239 (by kernel_rfl) g s.size (by unfold World.shape?; rw [hr]; simp only [hlen]) s.data.toList (by intro h; rw [h] at hl; simp at hl; omega) (by omega) (by omega) (by
    intro j x hj
    rw [Addr.add_lit, Nat.zero_add]
    refine cell_at hr ?_
    have hjl : j < s.data.toList.length := by
      rcases Nat.lt_or_ge j s.data.toList.length with h | h
      · exact h
      · rw [List.getElem?_eq_none h] at hj; exact absurd hj (by simp)
    rw [List.getElem?_toArray, List.getElem?_append_left (by rw [Lib.byteCells_length]; exact hjl)]
    unfold Lib.byteCells
    rw [List.getElem?_map, hj]
    rfl)
  rw [hl, list_mk] at this
  exact this
set_option maxRecDepth 100000 in
set_option maxHeartbeats 1000000 in
theorem clone_any (s : ByteArray) (w : World) (h1 : 1 ≤ s.size) (h2 : s.size ≤ 8000) :
    Calls Tryz.prog 100 #[.string s] w fun e w' => e = .returned (.string s) ∧ Below w.heap.size w w' := by
  obtain ⟨i0, hi, hz0, hz1, hz2⟩ := info_parts Tryz.info5
  have c0 : (s.size : Int) ≠ 0 := by omega
  have c1 : (0 : Int) < s.size := by omega
  go_enter Tryz.func100, Tryz.ntmps100
  go_wp2_with (at_make; refine wpList_make_full _ rfl _ _ 33 rfl w.heap.size 5 i0 (.int .u8 0) 1 Tryz.underlying33 hi hz0 hz1 .i64 .i64 s.size s.size s.size rfl rfl rfl rfl (by rw [hz2]; omega) (by unfold maxLen; omega) (by simp) ?_; intro w1 hown hgrow; obtain ⟨cur, hg, hc⟩ : ∃ cur, w1.heap[w.heap.size]? = some (.cells cur 5 (0, 0)) ∧ cur.size = s.size := (by
    rcases hown.2 with ⟨h, _⟩ | ⟨g, cap, cur, h, _, hg, _, _, hc, _⟩
    · simp at h
    · simp only [Value.slice.injEq, Option.some.injEq, Addr.mk.injEq, and_true, true_and] at h
      obtain ⟨rfl, rfl⟩ := h
      exact ⟨cur, hg, by simpa using hc⟩); have hcp := fun ty => Lib.run_copy_row_string (P := Tryz.prog) w1 33 9 ty 5 w.heap.size 0 s.size s.size s cur 5 Tryz.underlying33 (by rw [hi]; simp [hz1]) hg (Nat.le_refl _) (by omega); simp only [List.take_zero, List.nil_append, Nat.zero_add] at hcp; have hus := fun ty => clone_text s w1 w.heap.size cur ty h1 h2 hg hc)
  go_ret
  refine ⟨rfl, ?_⟩
  have hb := (Below.refl w.heap.size w).grown hgrow (Nat.le_refl _) (fun k hk => by cases hk)
  exact (hb.trans (setRow_below _ (Nat.le_refl _))).trans (freeze_below (Nat.le_refl _))
set_option maxRecDepth 100000 in
set_option maxHeartbeats 1000000 in
theorem sclone_any (s : ByteArray) (w : World) (h1 : 1 ≤ s.size) (h2 : s.size ≤ 8000) :
    Calls Tryz.prog 63 #[.string s] w fun e w' => e = .returned (.string s) ∧ Below w.heap.size w w' := by
  go_enter Tryz.func63, Tryz.ntmps63
  go_wp2_with (go_at_call 100; refine (clone_any s _ h1 h2).mono ?_; rintro e w' ⟨rfl, hb⟩)
  go_ret
  exact ⟨rfl, hb⟩
end Go.Proofs.YtilcmkiihefkkabGreatDoor.Mn
end
section
set_option linter.unusedVariables false
set_option linter.unusedSimpArgs false
set_option maxRecDepth 100000
namespace Go.Proofs.YtilcmkiihefkkabGreatDoor.Mn
open Go.RowKit
/-- a sequence: its name and its bases -/
structure S2 where
  n : ByteArray
  b : ByteArray
/-- sequences, as they lie in memory -/
def qcells (L : List S2) : List Value := L.flatMap fun x => [.string x.n, .string x.b]
theorem qcells_append (E F : List S2) : qcells (E ++ F) = qcells E ++ qcells F := by simp [qcells]
theorem qcells_length (E : List S2) : (qcells E).length = E.length * 2 := by
  induction E with
  | nil => rfl
  | cons x E ih =>
    show (Value.string x.n :: Value.string x.b :: qcells E).length = _
    simp only [List.length_cons, ih]
    omega
theorem qcells_at (E : List S2) : ∀ j (h : j < E.length), (qcells E)[2 * j]? = some (.string E[j].n) ∧ (qcells E)[2 * j + 1]? = some (.string E[j].b) := by
  induction E with
  | nil => intro j h; exact absurd h (by simp)
  | cons x E ih =>
    intro j h
    cases j with
    | zero => exact ⟨rfl, rfl⟩
    | succ j =>
      have := ih j (by simpa using h)
      show (Value.string x.n :: Value.string x.b :: qcells E)[2 * (j + 1)]? = _ ∧ (Value.string x.n :: Value.string x.b :: qcells E)[2 * (j + 1) + 1]? = _
      rw [show 2 * (j + 1) = 2 * j + 1 + 1 by omega]
      simpa using this
theorem qcells_iff (X : List S2) (cur : Array Value) (o : Nat) : (∀ i u, (qcells X)[i]? = some u → cur[o + i]? = some u) ↔ ∀ q (h : q < X.length), cur[o + 2 * q]? = some (.string X[q].n) ∧ cur[o + (2 * q + 1)]? = some (.string X[q].b) := by
  constructor
  · intro h q hq
    have := qcells_at X q hq
    exact ⟨h _ _ this.1, h _ _ this.2⟩
  · intro h i u hi
    have hlt : i < X.length * 2 := by
      rcases Nat.lt_or_ge i (qcells X).length with hh | hh
      · rwa [qcells_length] at hh
      · rw [List.getElem?_eq_none hh] at hi; exact absurd hi (by simp)
    have hq : i / 2 < X.length := by omega
    have h1 := qcells_at X (i / 2) hq
    have h2 := h (i / 2) hq
    rcases (show i = 2 * (i / 2) ∨ i = 2 * (i / 2) + 1 by omega) with he | he
    · rw [he] at hi ⊢; rw [h1.1] at hi; rw [h2.1]; exact hi
    · rw [he] at hi ⊢; rw [h1.2] at hi; rw [h2.2]; exact hi
/-- what a slice of sequences of the call's own reads as -/
theorem OwnR.seqs {w : World} {base g o cap n : Nat} {L : List S2} (h : OwnR w base 62 2 (.slice (some ⟨g, o, none⟩) n cap) n (qcells L)) :
    ∀ j (hj : j < L.length), w.cell? ⟨g, o + j * 2, none⟩ = some (.string L[j].n) ∧ w.cell? ⟨g, o + j * 2 + 1, none⟩ = some (.string L[j].b) := by
  rcases h.2 with ⟨h, _⟩ | ⟨_, _, _, cur, he, h1, h2, h3, h4, h5, h6⟩
  · simp at h
  · simp only [Value.slice.injEq, Option.some.injEq, Addr.mk.injEq, and_true, true_and] at he
    obtain ⟨⟨rfl, rfl⟩, rfl⟩ := he
    intro j hj
    have := qcells_at L j hj
    rw [Nat.mul_comm]
    exact ⟨cell_at h2 (h6 _ _ this.1), cell_at h2 (h6 _ _ this.2)⟩
/-- is a name there? -/
def hasN (L : List S2) (s : ByteArray) : Prop := ∃ x ∈ L, x.n = s
end Go.Proofs.YtilcmkiihefkkabGreatDoor.Mn
end
section
set_option linter.unusedVariables false
set_option linter.unusedSimpArgs false
set_option maxRecDepth 100000
namespace Go.Proofs.YtilcmkiihefkkabGreatDoor.Mn
open Go.RowKit
theorem AppFr.below {w w' : World} {v : Value} {g' base : Nat} (h : AppFr w w' v g') (hv : ∀ g, v.ownBlock = some g → base ≤ g) (hb : base ≤ w.heap.size) : Below base w w' :=
  ⟨h.os, h.tape, h.output, h.size, fun j hj => h.other j (by omega) (fun he => by have := hv j he; omega)⟩
theorem box1_cells (W : World) (x : Value) (t : TypeId) (s : Nat) (hs : s = W.heap.size) : ∀ j u, ([x] : List Value)[j]? = some u → (W.alloc (.cells #[x] t)).cell? ((⟨s, 0, none⟩ : Addr).add j) = some u := by
  intro j u hj
  subst hs
  rw [Addr.add_lit, Nat.zero_add]
  refine cell_at (heap_alloc_new W _) ?_
  simpa using hj
end Go.Proofs.YtilcmkiihefkkabGreatDoor.Mn
end
section
set_option linter.unusedVariables false
set_option linter.unusedSimpArgs false
set_option maxRecDepth 100000
namespace Go.Proofs.YtilcmkiihefkkabGreatDoor.Mn
open Go.RowKit
/-- the name that a line begins -/
def tl (x : ByteArray) : ByteArray := x.extract 1 x.size
theorem tl_size (x : ByteArray) : (tl x).size ≤ x.size := by
  unfold tl
  rw [ByteArray.size_extract]
  omega
/-- bases more for the last sequence -/
def addB (L : List S2) (x : ByteArray) : List S2 := L.dropLast ++ (L.getLast?.map fun y => ⟨y.n, y.b ++ x⟩).toList
theorem addB_snoc (A : List S2) (y : S2) (x : ByteArray) : addB (A ++ [y]) x = A ++ [⟨y.n, y.b ++ x⟩] := by simp [addB]
theorem snoc_of {L : List S2} (h : L ≠ []) : ∃ A y, L = A ++ [y] := by
  rcases List.eq_nil_or_concat L with h' | ⟨A, y, h'⟩
  · exact absurd h' h
  · exact ⟨A, y, by simpa using h'⟩
def begD (x : ByteArray) : Decidable (begins x) := by unfold begins; infer_instance
def nameD (x : ByteArray) : Decidable (nameOK x) := by unfold nameOK; infer_instance
def hasD (L : List S2) (x : ByteArray) : Decidable (hasN L x) := by unfold hasN; infer_instance
def goodD (x : ByteArray) : Decidable (good x) := by unfold good; infer_instance
def nilD (L : List S2) : Decidable (L = []) := match L with
  | [] => isTrue rfl
  | _ :: _ => isFalse (fun h => by cases h)
/-- one line: the error, and the sequences then -/
def pstep (L : List S2) (x : ByteArray) : Nat × List S2 :=
  @ite _ (begins x) (begD x) (@ite _ (nameOK (tl x)) (nameD (tl x)) (@ite _ (hasN L (tl x)) (hasD L (tl x)) (5, []) (0, L ++ [⟨tl x, ⟨#[]⟩⟩])) (4, []))
    (@ite _ (L = []) (nilD L) (3, []) (@ite _ (good x) (goodD x) (0, addB L x) (2, [])))
/-- all lines: the sequences, the error, the number of the line -/
def parseL : Nat → List S2 → List ByteArray → List S2 × Nat × Nat
  | _, L, [] => (L, 0, 0)
  | i, L, x :: r => if (pstep L x).1 = 0 then parseL (i + 1) (pstep L x).2 r else ([], (pstep L x).1, i)
theorem pstep_name {L : List S2} {x : ByteArray} (h : begins x) (h1 : ¬ nameOK (tl x)) : pstep L x = (4, []) := by
  unfold pstep; rw [if_pos h, if_neg h1]
theorem pstep_twice {L : List S2} {x : ByteArray} (h : begins x) (h1 : nameOK (tl x)) (h2 : hasN L (tl x)) : pstep L x = (5, []) := by
  unfold pstep; rw [if_pos h, if_pos h1, if_pos h2]
theorem pstep_begin {L : List S2} {x : ByteArray} (h : begins x) (h1 : nameOK (tl x)) (h2 : ¬ hasN L (tl x)) : pstep L x = (0, L ++ [⟨tl x, ⟨#[]⟩⟩]) := by
  unfold pstep; rw [if_pos h, if_pos h1, if_neg h2]
theorem pstep_line {L : List S2} {x : ByteArray} (h : ¬ begins x) (h1 : L = []) : pstep L x = (3, []) := by
  unfold pstep; rw [if_neg h, if_pos h1]
theorem pstep_byte {L : List S2} {x : ByteArray} (h : ¬ begins x) (h1 : L ≠ []) (h2 : ¬ good x) : pstep L x = (2, []) := by
  unfold pstep; rw [if_neg h, if_neg h1, if_neg h2]
theorem pstep_bases {L : List S2} {x : ByteArray} (h : ¬ begins x) (h1 : L ≠ []) (h2 : good x) : pstep L x = (0, addB L x) := by
  unfold pstep; rw [if_neg h, if_neg h1, if_pos h2]
theorem parseL_ok {i : Nat} {L L' : List S2} {x : ByteArray} {r : List ByteArray} (h : pstep L x = (0, L')) : parseL i L (x :: r) = parseL (i + 1) L' r := by
  rw [parseL, h, if_pos rfl]
theorem linesA_size : ∀ (l cur : List UInt8), ∀ x ∈ linesA cur l, x.length ≤ cur.length + l.length
  | [], cur, x, h => by
    rw [linesA] at h
    split at h
    · simp at h
    · simp at h; subst h; simp
  | c :: r, cur, x, h => by
    rw [linesA] at h
    split at h
    · rw [List.mem_cons] at h
      rcases h with rfl | h
      · simp
      · have := linesA_size r [] x h
        simp at this ⊢
        omega
    · have := linesA_size r (cur ++ [c]) x h
      simp at this ⊢
      omega
theorem linesB_size (s : ByteArray) : ∀ x ∈ linesB s, x.size ≤ s.size := by
  intro x hx
  unfold linesB at hx
  rw [List.mem_map] at hx
  obtain ⟨l, hl, rfl⟩ := hx
  have := linesA_size s.data.toList [] l hl
  rw [list_len] at this
  show l.toArray.size ≤ _
  simp at this ⊢
  exact this
theorem linesB_length (s : ByteArray) : (linesB s).length ≤ s.size := by
  unfold linesB
  rw [List.length_map]
  have := linesB_length_le s.data.toList []
  rw [list_len] at this
  simpa using this
theorem addB_length (L : List S2) (x : ByteArray) : (addB L x).length = L.length := by
  by_cases h : L = []
  · subst h; rfl
  · obtain ⟨A, y, rfl⟩ := snoc_of h
    rw [addB_snoc]
    simp
theorem Tryz.info62 : (Tryz.prog.info? 62).map (fun i => (i.zero, i.size, i.bytes)) = some (some (.agg #[.string ⟨#[]⟩, .string ⟨#[]⟩]), 2, 32) := by kernel_rfl
theorem seq_oneCell (x y : ByteArray) : ∀ u ∈ ([.string x, .string y] : List Value), u.oneCell' = true := by
  intro u hu
  simp at hu
  rcases hu with rfl | rfl <;> rfl
theorem pbox_cells (W : World) (x y : Value) (t : TypeId) (s : Nat) (hs : s = W.heap.size) : ∀ j u, ([x, y] : List Value)[j]? = some u → (W.alloc (.cells #[x, y] t)).cell? ((⟨s, 0, none⟩ : Addr).add j) = some u := by
  intro j u hj
  subst hs
  rw [Addr.add_lit, Nat.zero_add]
  refine cell_at (heap_alloc_new W _) ?_
  simpa using hj
/-- the sizes of what is gathered -/
def Small (L : List S2) (k : Nat) : Prop := ∀ y ∈ L, y.b.size ≤ 8000 * k
theorem Small.mono {L : List S2} {k k' : Nat} (h : Small L k) (hk : k ≤ k') : Small L k' := fun y hy => Nat.le_trans (h y hy) (Nat.mul_le_mul_left _ hk)
end Go.Proofs.YtilcmkiihefkkabGreatDoor.Mn
end
section
set_option linter.unusedVariables false
set_option linter.unusedSimpArgs false
set_option maxRecDepth 100000
namespace Go.Proofs.YtilcmkiihefkkabGreatDoor.Mn
open Go.RowKit
theorem OwnR.low {w : World} {base base' : Nat} {e : TypeId} {size : Nat} {v : Value} {n : Nat} {xs : List Value} (h : OwnR w base e size v n xs) (hb : base' ≤ base) : OwnR w base' e size v n xs := by
  obtain ⟨h0, h⟩ := h
  refine ⟨h0, ?_⟩
  rcases h with ⟨rfl, rfl⟩ | ⟨g, o, cap, cur, rfl, h1, h2⟩
  · exact Or.inl ⟨rfl, rfl⟩
  · exact Or.inr ⟨g, o, cap, cur, rfl, by omega, h2⟩
/-- what Parse answers -/
def parseR (s : ByteArray) : List S2 × Nat × Nat := if 8000 < s.size then ([], 1, 0) else parseL 0 [] (linesB s)
end Go.Proofs.YtilcmkiihefkkabGreatDoor.Mn
end
section
set_option linter.unusedVariables false
set_option linter.unusedSimpArgs false
set_option maxRecDepth 100000
namespace Go.Proofs.YtilcmkiihefkkabGreatDoor.Mn
open Go.RowKit
theorem OwnR.form {w : World} {base : Nat} {e : TypeId} {size : Nat} {v : Value} {n : Nat} {xs : List Value} (h : OwnR w base e size v n xs) : ∃ ao c, v = .slice ao n c := by
  rcases h.2 with ⟨rfl, rfl⟩ | ⟨g, o, cap, cur, rfl, _⟩
  · exact ⟨_, _, rfl⟩
  · exact ⟨_, _, rfl⟩
/-- the letter of a number -/
def letB (m : Nat) : UInt8 := ([65, 67, 71, 84, 78] : List UInt8).getD m 0
theorem letB_get (m : Nat) (h : m < (⟨#[65, 67, 71, 84, 78]⟩ : ByteArray).size) : (⟨#[65, 67, 71, 84, 78]⟩ : ByteArray)[m] = letB m := by
  have : m < 5 := h
  rcases (show m = 0 ∨ m = 1 ∨ m = 2 ∨ m = 3 ∨ m = 4 by omega) with rfl | rfl | rfl | rfl | rfl <;> rfl
theorem letB_numb (c : UInt8) (h : 0 ≤ numb c) : letB (numb c).toNat = c := by
  rcases numb_cases c with ⟨rfl, _⟩ | ⟨rfl, _⟩ | ⟨rfl, _⟩ | ⟨rfl, _⟩ | ⟨rfl, _⟩ | ⟨h', _⟩
  · rfl
  · rfl
  · rfl
  · rfl
  · rfl
  · omega
theorem byte_oneCell (x : Int) : ∀ u ∈ ([.int .u8 x] : List Value), u.oneCell' = true := by
  intro u hu
  simp at hu
  subst hu
  rfl
/-- what is left when one more base is gathered -/
theorem pbase_end {w W w2 : World} {B base g' o' cap' n nq : Nat} {sv mv bv : Value} {bs : List UInt8} {c : UInt8} {ob : Obj}
    (hltB : B < w.heap.size) (hn : bs.length = n)
    (hW : W = (w.drewN nq).alloc ob)
    (hB2 : w2.heap[B]? = some (.cells #[sv, mv, bv] 81 (0, 0)))
    (hown : OwnR w2 base 5 1 (.slice (some ⟨g', o', none⟩) (n + 1) cap') (n + 1) (Lib.byteCells bs ++ [.int .u8 (c.toNat : Int)])) (hfr : AppFr W w2 bv g') :
    ∃ bv', OwnR (w2.setCell ⟨B, 2, none⟩ (.slice (some ⟨g', o', none⟩) (n + 1) cap')) base 5 1 bv' (bs ++ [c]).length (Lib.byteCells (bs ++ [c])) ∧
      (w2.setCell ⟨B, 2, none⟩ (.slice (some ⟨g', o', none⟩) (n + 1) cap')).heap[B]? = some (.cells #[sv, mv, bv'] 81 (0, 0)) ∧
      PFr w (w2.setCell ⟨B, 2, none⟩ (.slice (some ⟨g', o', none⟩) (n + 1) cap')) bv bv' B := by
  subst hW
  have hU := Upd.of_setCell (i := 2) (.slice (some ⟨g', o', none⟩) (n + 1) cap') hB2
  have hne : (Value.slice (some ⟨g', o', none⟩) (n + 1) cap').ownBlock ≠ some B := hown.tag (by decide) hB2
  have hfs := hfr.size
  simp at hfs
  have hws : (w.drewN nq).heap.size = w.heap.size := rfl
  refine ⟨.slice (some ⟨g', o', none⟩) (n + 1) cap', ?_, hU.here, ⟨?_, ?_, ?_, ?_, ?_, ?_⟩⟩
  · have e : Lib.byteCells (bs ++ [c]) = Lib.byteCells bs ++ [.int .u8 (c.toNat : Int)] := by simp [Lib.byteCells]
    rw [e, List.length_append, hn]
    exact hown.other (fun g hg _ => hU.other g (fun e => hne (by rw [hg, e])))
  · exact hU.os.trans hfr.os
  · exact hU.tape.trans hfr.tape
  · exact hU.output.trans hfr.output
  · rw [hU.size]
    omega
  · intro j hj hjB hjo
    rw [hU.other j hjB, hfr.other j (by simp; omega) hjo]
    exact Below.heap_alloc (w.drewN nq) ob j hj
  · intro g hg
    simp only [Value.ownBlock, Option.some.injEq] at hg
    subst hg
    rcases hfr.new with h | h
    · exact Or.inl h
    · right
      have : w.heap.size + 1 ≤ g' := by simpa using h
      omega
set_option maxHeartbeats 1000000 in
set_option maxRecDepth 100000 in
theorem pbase_any (B base m n : Nat) (p : Int) (sv mv bv : Value) (bs : List UInt8) (hnl : bs.length = n) (w : World) (hm : m < 5)
    (hB : w.heap[B]? = some (.cells #[sv, mv, bv] 81 (0, 0))) (hown : OwnR w base 5 1 bv n (Lib.byteCells bs)) (hbase : base ≤ w.heap.size) (hn : n ≤ 1000000000) :
    Calls Tryz.prog 51 #[.pointer (some ⟨B, 0, none⟩), .int .i64 p, .int .i64 m] w fun e w' => e = .returned (.tuple #[]) ∧
      ∃ bv', OwnR w' base 5 1 bv' (bs ++ [letB m]).length (Lib.byteCells (bs ++ [letB m])) ∧ w'.heap[B]? = some (.cells #[sv, mv, bv'] 81 (0, 0)) ∧ PFr w w' bv bv' B := by
  obtain ⟨i0, hi, hz0, hz1, hz2⟩ := info_parts Tryz.info5
  obtain ⟨ao, c, rfl⟩ := hown.form
  have hltB := lt_of_block hB
  have hne : (Value.slice ao n c).ownBlock ≠ some B := hown.tag (by decide) hB
  have HNL : Hid (bs.length = n) := hnl
  have HNE : Hid ((Value.slice ao n c).ownBlock ≠ some B) := hne
  have HB : Hid (w.heap[B]? = some (.cells #[sv, mv, .slice ao n c] 81 (0, 0))) := hB
  have c2 : w.cell? ⟨B, 2, none⟩ = some (.slice ao n c) := cell_at hB rfl
  have f2 : w.frozen? ⟨B, 2, none⟩ = false := frozen_of_row _ _ _ _ _ hB
  have ha : ∀ nq ob, ((w.drewN nq).alloc ob).cell? ⟨B, 2, none⟩ = some (.slice ao n c) := fun nq ob => cell_allocN c2 _ nq
  have hm2 : (m : Int) < 5 := by omega
  clear hB hnl hne
  go_enter Tryz.func51, Tryz.ntmps51
  go_region_law (refine step_own rfl (.tmp 10) (.tmp 13) 33 rfl 5 i0 _ 1 1 Tryz.underlying33 hi hz0 hz1 hz2 rfl (by decide) base (.slice ao n c) n (Lib.byteCells bs) (by simp [Act.eval]) (by exact hown.other (fun g _ hlt => Below.heap_alloc (w.drewN _) _ _ hlt)) ⟨w.heap.size, 0, none⟩ 1 [.int .u8 ((⟨#[65, 67, 71, 84, 78]⟩ : ByteArray)[m].toNat : Int)] (by simp [Act.eval]) rfl (by exact box1_cells (w.drewN _) _ _ _ rfl) (byte_oneCell _) (by unfold maxLen; omega) (by omega) (by simp; omega) ?_; intro g' o' cap' w2 hown' hfr; have hB2 : w2.heap[B]? = some (.cells #[sv, mv, .slice ao n c] 81 (0, 0)) := (hfr.other B (by simp; omega) HNE.out).trans ((Below.heap_alloc (w.drewN _) _ _ hltB).trans HB.out); have HB2 : Hid _ := hB2; have q4 := cell_at hB2 (i := 2) rfl; have qf : w2.frozen? ⟨B, 2, none⟩ = false := frozen_of_row w2 _ _ _ _ hB2; clear hB2)
  all_goals go_end0
  all_goals (rw [letB_get m hm] at hown'; exact ⟨rfl, pbase_end hltB HNL.out rfl HB2.out hown' hfr⟩)
end Go.Proofs.YtilcmkiihefkkabGreatDoor.Mn
end
section
set_option linter.unusedVariables false
set_option linter.unusedSimpArgs false
set_option maxRecDepth 100000
namespace Go.Proofs.YtilcmkiihefkkabGreatDoor.Mn
open Go.RowKit
theorem bytes_text {w : World} {base n : Nat} {ao : Option Addr} {c : Nat} {bs : List UInt8} (hn : bs.length = n) (h : OwnR w base 5 1 (.slice ao n c) n (Lib.byteCells bs)) :
    (convert 33 9 (.slice ao n c)).run Tryz.prog w = .ok (.string ⟨bs.toArray⟩) w := by
  rcases h.2 with ⟨h1, h0⟩ | ⟨g, o, cap, cur, h1, _, h2, _, _, _, h6⟩
  · have hb : bs = [] := List.eq_nil_of_length_eq_zero (by omega)
    subst hb
    simp only [Value.slice.injEq] at h1
    obtain ⟨rfl, rfl, rfl⟩ := h1
    exact run_convert_bytes_nil w 33 5 Tryz.underlying33 Tryz.underlying5 0 0 9 Tryz.underlying9
  · simp only [Value.slice.injEq, true_and] at h1
    obtain ⟨rfl, rfl⟩ := h1
    have := run_convert_bytes_back (P := Tryz.prog) w 33 9 5 ⟨g, o, none⟩ c bs Tryz.underlying33 Tryz.underlying5 Tryz.underlying9 (by
      intro j hj
      rw [Addr.add_lit]
      refine cell_at h2 (h6 j _ ?_)
      unfold Lib.byteCells
      rw [List.getElem?_map, List.getElem?_eq_getElem hj]
      rfl)
    rw [hn] at this
    exact this
theorem OwnR.setB {w : World} {base g o n cap : Nat} {X : List S2} (h : OwnR w base 62 2 (.slice (some ⟨g, o, none⟩) n cap) n (qcells X)) (hX : X.length = n) (j : Nat) (hj : j < n) (b : ByteArray) :
    OwnR (w.setCell ⟨g, o + j * 2 + 1, none⟩ (.string b)) base 62 2 (.slice (some ⟨g, o, none⟩) n cap) n (qcells (X.set j ⟨(X[j]'(by omega)).n, b⟩)) := by
  obtain ⟨h0, h⟩ := h
  refine ⟨by rw [qcells_length] at h0 ⊢; rw [List.length_set]; exact h0, ?_⟩
  rcases h with ⟨h, _⟩ | ⟨g', o', cap', cur, he, h1, h2, h3, h4, h5, h6⟩
  · simp at h
  · simp only [Value.slice.injEq, Option.some.injEq, Addr.mk.injEq, and_true, true_and] at he
    obtain ⟨⟨rfl, rfl⟩, rfl⟩ := he
    have hU := Upd.of_setCell (i := o + j * 2 + 1) (.string b) h2
    refine Or.inr ⟨g, o, cap, _, rfl, h1, hU.here, h3, h4, by simpa using h5, ?_⟩
    rw [qcells_iff] at h6 ⊢
    intro q hq
    rw [List.length_set] at hq
    have hcap : o + n * 2 ≤ cur.size := Nat.le_trans (Nat.add_le_add_left (Nat.mul_le_mul_right 2 h3) o) h5
    have := h6 q hq
    by_cases hqj : q = j
    · subst hqj
      simp only [List.getElem_set_self]
      refine ⟨?_, ?_⟩
      · rw [Array.getElem?_setIfInBounds_ne (by omega)]; exact this.1
      · rw [show o + (2 * q + 1) = o + q * 2 + 1 by omega, Array.getElem?_setIfInBounds_self_of_lt (by omega)]
    · have hne : j ≠ q := fun h => hqj h.symm
      rw [List.getElem_set_ne hne]
      refine ⟨?_, ?_⟩
      · rw [Array.getElem?_setIfInBounds_ne (by omega)]; exact this.1
      · rw [Array.getElem?_setIfInBounds_ne (by omega)]; exact this.2
/-- what 'finish' leaves alone -/
structure FFr (w w' : World) (sv : Value) (B : Nat) : Prop where
  os : w'.os = w.os
  tape : w'.tape = w.tape
  output : w'.output = w.output
  size : w'.heap.size = w.heap.size
  other : ∀ j, j ≠ B → sv.ownBlock ≠ some j → w'.heap[j]? = w.heap[j]?
set_option maxHeartbeats 1000000 in
set_option maxRecDepth 100000 in
theorem finish_nil (B : Nat) (ao : Option Addr) (c : Nat) (mv bv : Value) (w : World)
    (hB : w.heap[B]? = some (.cells #[.slice ao 0 c, mv, bv] 81 (0, 0))) :
    Calls Tryz.prog 32 #[.pointer (some ⟨B, 0, none⟩)] w fun e w' => e = .returned (.tuple #[]) ∧ w' = w := by
  have c0 : w.cell? ⟨B, 0, none⟩ = some (.slice ao 0 c) := cell_at hB rfl
  clear hB
  go_enter Tryz.func32, Tryz.ntmps32
  go_wp2
  (try simp only [Exit.inBlock, Exit.then])
  refine bodyPost_ret (results_none rfl _ _ _) rfl ?_
  exact ⟨rfl, rfl⟩
set_option maxHeartbeats 2000000 in
set_option maxRecDepth 100000 in
theorem finish_some (B base m n g o sc bc : Nat) (bao : Option Addr) (mv : Value) (A : List S2) (y : S2) (hA : A.length = m) (bs : List UInt8) (hnl : bs.length = n) (w : World)
    (hB : w.heap[B]? = some (.cells #[.slice (some ⟨g, o, none⟩) (m + 1) sc, mv, .slice bao n bc] 81 (0, 0)))
    (hs : OwnR w base 62 2 (.slice (some ⟨g, o, none⟩) (m + 1) sc) (m + 1) (qcells (A ++ [y])))
    (hb : OwnR w base 5 1 (.slice bao n bc) n (Lib.byteCells bs)) (hn : n ≤ 1000000000) (hm : m ≤ 1000000000) (hbc : (bc : Int) ≤ 9223372036854775807) :
    Calls Tryz.prog 32 #[.pointer (some ⟨B, 0, none⟩)] w fun e w' => e = .returned (.tuple #[]) ∧
      w'.heap[B]? = some (.cells #[.slice (some ⟨g, o, none⟩) (m + 1) sc, mv, .slice bao 0 bc] 81 (0, 0)) ∧
      OwnR w' base 62 2 (.slice (some ⟨g, o, none⟩) (m + 1) sc) (m + 1) (qcells (A ++ [⟨y.n, ⟨bs.toArray⟩⟩])) ∧ FFr w w' (.slice (some ⟨g, o, none⟩) (m + 1) sc) B := by
  have c0 : w.cell? ⟨B, 0, none⟩ = some (.slice (some ⟨g, o, none⟩) (m + 1) sc) := cell_at hB rfl
  have c2 : w.cell? ⟨B, 2, none⟩ = some (.slice bao n bc) := cell_at hB rfl
  have f2 : w.frozen? ⟨B, 2, none⟩ = false := frozen_of_row _ _ _ _ _ hB
  have hcv := bytes_text hnl (w := w.drew) (hb.other (fun _ _ _ => rfl))
  obtain ⟨cur, hgc, hgs⟩ : ∃ cur, w.heap[g]? = some (.cells cur 62 (0, 0)) ∧ o + (m + 1) * 2 ≤ cur.size := by
    rcases hs.2 with ⟨h, _⟩ | ⟨g', o', cap, cur, h, _, h2, h3, _, h5, _⟩
    · simp at h
    · simp only [Value.slice.injEq, Option.some.injEq, Addr.mk.injEq, and_true, true_and] at h
      obtain ⟨⟨rfl, rfl⟩, rfl⟩ := h
      exact ⟨cur, h2, Nat.le_trans (Nat.add_le_add_left (Nat.mul_le_mul_right 2 h3) o) h5⟩
  obtain ⟨b1, b2⟩ := hs.seqs m (by rw [List.length_append, hA]; simp)
  have hgB : g ≠ B := fun e => by subst e; rw [hB] at hgc; simp at hgc
  have hgB' : ¬ B = g := fun e => hgB e.symm
  have fb : w.frozen? ⟨g, o + m * 2 + 1, none⟩ = false := frozen_of_row _ _ _ _ _ hgc
  have hLm : (A ++ [y])[m]'(by rw [List.length_append, hA]; simp) = y := by simp [← hA]
  rw [hLm] at b1 b2
  have hset := hs.setB (by rw [List.length_append, hA]; rfl) m (by omega) ⟨bs.toArray⟩
  have hLS2 : (A ++ [y]).set m ⟨((A ++ [y])[m]'(by rw [List.length_append, hA]; simp)).n, ⟨bs.toArray⟩⟩ = A ++ [⟨y.n, ⟨bs.toArray⟩⟩] := by
    rw [hLm, ← hA]
    simp
  rw [hLS2] at hset
  have HSET : Hid (OwnR (w.setCell ⟨g, o + m * 2 + 1, none⟩ (.string ⟨bs.toArray⟩)) base 62 2 (.slice (some ⟨g, o, none⟩) (m + 1) sc) (m + 1) (qcells (A ++ [⟨y.n, ⟨bs.toArray⟩⟩]))) := hset
  have e1 : ((m + 1 : Nat) : Int) - 1 = m := by omega
  have e2 : (m : Int) < ((m + 1 : Nat) : Int) := by omega
  have e3 : (((m + 1 : Nat) : Int) == 0) = false := by rw [beq_eq_false_iff_ne]; omega
  have HU1 : Hid (Upd w (w.setCell ⟨g, o + m * 2 + 1, none⟩ (.string ⟨bs.toArray⟩)) g _) := Upd.of_setCell (i := o + m * 2 + 1) (.string ⟨bs.toArray⟩) hgc
  have HB1 : (w.setCell ⟨g, o + m * 2 + 1, none⟩ (.string ⟨bs.toArray⟩)).heap[B]? = some (.cells #[.slice (some ⟨g, o, none⟩) (m + 1) sc, mv, .slice bao n bc] 81 (0, 0)) := (HU1.out.other B hgB').trans hB
  have HU2 : Hid (Upd (w.setCell ⟨g, o + m * 2 + 1, none⟩ (.string ⟨bs.toArray⟩)) ((w.setCell ⟨g, o + m * 2 + 1, none⟩ (.string ⟨bs.toArray⟩)).setCell ⟨B, 2, none⟩ (.slice bao 0 bc)) B _) := Upd.of_setCell (i := 2) (.slice bao 0 bc) HB1
  clear hset hLS2 hB hLm hgc hgs hs hb HB1
  go_enter Tryz.func32, Tryz.ntmps32
  go_wp2
  go_region
  go_wp2
  go_end0
  refine ⟨rfl, HU2.out.here, HSET.out.other (fun j hj _ => HU2.out.other j (fun e => ?_)), ⟨rfl, rfl, rfl, HU2.out.size.trans HU1.out.size, fun j h1 h2 => (HU2.out.other j h1).trans (HU1.out.other j (fun e => h2 (by simp [Value.ownBlock, e])))⟩⟩
  simp only [Value.ownBlock, Option.some.injEq] at hj
  exact hgB (hj.trans e)
end Go.Proofs.YtilcmkiihefkkabGreatDoor.Mn
end
section
set_option linter.unusedVariables false
set_option linter.unusedSimpArgs false
set_option maxRecDepth 100000
namespace Go.Proofs.YtilcmkiihefkkabGreatDoor.Mn
open Go.RowKit Go.Maps
/-- the last one's bases are yet to come -/
def openL (L : List S2) : List S2 := L.dropLast ++ (L.getLast?.map fun y => ⟨y.n, ⟨#[]⟩⟩).toList
/-- the bases that are gathered -/
def lastB (L : List S2) : List UInt8 := (L.getLast?.map fun y => y.b.data.toList).getD []
theorem openL_snoc (A : List S2) (y : S2) : openL (A ++ [y]) = A ++ [⟨y.n, ⟨#[]⟩⟩] := by simp [openL]
theorem lastB_snoc (A : List S2) (y : S2) : lastB (A ++ [y]) = y.b.data.toList := by simp [lastB]
theorem law9 : Keyed Tryz.prog 9 := string_keyed Tryz.underlying9
theorem zero3 (w : World) : (zeroValue 3).run Tryz.prog w = .ok (.int .i64 0) w := by kernel_rfl
/-- a store into a map, as one step of a region that draws -/
theorem step_map {H : Type} {P : Program} {ops : Array Oper} {o : Oper} {a : Act} {w : World} {K : Act → World → Prop} {Q : Exit → Act → World → Prop} {E : Prop}
    (hg : o.guard = none) (m x v : Operand) (t : TypeId) (hop : o.op = Op.mapUpdate t m x v)
    (k e : TypeId) (Kd : Keyed P k) (ht : P.underlying t = some (.map k e)) (R : Value → Option (DataW H × List MemPlace)) (b n : Nat) (D : DataW H)
    (hm : a.eval m = .map (some b)) (hown : w.ownsMap P k R b n D) (hn : n < maxLen) (key val : Value) (kl : Lit) (hx : a.eval x = key) (hv : a.eval v = val) (hkey : keyOf P k key = some kl)
    (d : DataW H) (ps : List MemPlace) (hval : R val = some (d, ps))
    (hK : ∀ w', w'.ownsMap P k R b (n + 1) (D.put kl d) → w.grownBy w' (some b) → K (a.put o.dst undef) w') :
    if Region.wanted o (yielded ops a.tmps) = true then Oper.wp P o a w K Q else E := by
  have hw : Region.wanted o (yielded ops a.tmps) = true := by simp [Region.wanted, hg]
  rw [if_pos hw]
  obtain ⟨w', hrun, r1, r2⟩ := hown.update Kd ht hn hkey hval
  unfold Oper.wp
  simp [execOp, hop, hm, hx, hv, hrun, Result.andThen]
  exact hK w' r1 r2
/-- the parser, with its parts -/
structure PrP (base B Bm : Nat) (L : List S2) (sv bv : Value) (D : DataW Unit) (w : World) : Prop where
  par : w.heap[B]? = some (.cells #[sv, .map (some Bm), bv] 81 (0, 0))
  seqs : OwnR w base 62 2 sv L.length (qcells (openL L))
  bases : OwnR w base 5 1 bv (lastB L).length (Lib.byteCells (lastB L))
  map : w.ownsMap Tryz.prog 9 (plainElem Tryz.prog 3) Bm L.length D
  has : ∀ s : ByteArray, Maps.has D (.string s.data.toList) = true ↔ hasN L s
  low : base ≤ w.heap.size
  lowB : base ≤ B
  lowM : base ≤ Bm
theorem ownsMap_block {w w' : World} {P : Program} {k : TypeId} {R : Value → Option (DataW Unit × List MemPlace)} {b n : Nat} {D : DataW Unit} (h : w.ownsMap P k R b n D) (hb : w'.heap[b]? = w.heap[b]?) : w'.ownsMap P k R b n D := by
  obtain ⟨es, clock, h1, h2⟩ := h
  exact ⟨es, clock, hb.trans h1, h2⟩
theorem ownsMap_ne {w : World} {P : Program} {k : TypeId} {R : Value → Option (DataW Unit × List MemPlace)} {b n : Nat} {D : DataW Unit} (h : w.ownsMap P k R b n D) {g : Nat} {cs : Array Value} {t : TypeId} (hg : w.heap[g]? = some (.cells cs t (0, 0))) : g ≠ b := by
  obtain ⟨es, clock, h1, h2⟩ := h
  intro e
  subst e
  rw [hg] at h1
  simp at h1
theorem OwnR.neMap {w : World} {base : Nat} {e : TypeId} {size : Nat} {v : Value} {n : Nat} {xs : List Value} (h : OwnR w base e size v n xs) {P : Program} {k : TypeId} {R : Value → Option (DataW Unit × List MemPlace)} {b n' : Nat} {D : DataW Unit} (hm : w.ownsMap P k R b n' D) : v.ownBlock ≠ some b := by
  obtain ⟨_, h⟩ := h
  rcases h with ⟨rfl, rfl⟩ | ⟨g, o, cap, cur, rfl, h1, h2, h3⟩
  · simp [Value.ownBlock]
  · intro e
    simp only [Value.ownBlock, Option.some.injEq] at e
    exact ownsMap_ne hm h2 e
theorem OwnR.apart {w : World} {base : Nat} {e e' : TypeId} {size size' : Nat} {v v' : Value} {n n' : Nat} {xs xs' : List Value} (h : OwnR w base e size v n xs) (h' : OwnR w base e' size' v' n' xs') (he : e ≠ e') {g : Nat} (hg : v.ownBlock = some g) : v'.ownBlock ≠ some g := by
  obtain ⟨_, h⟩ := h
  rcases h with ⟨rfl, rfl⟩ | ⟨g2, o, cap, cur, rfl, h1, h2, h3⟩
  · simp [Value.ownBlock] at hg
  · simp only [Value.ownBlock, Option.some.injEq] at hg
    subst hg
    exact h'.tag he h2
/-- 'finish', whatever was begun -/
theorem finish_any (base B Bm : Nat) (L : List S2) (sv bv : Value) (D : DataW Unit) (w : World) (h : PrP base B Bm L sv bv D w) (hL : L.length ≤ 100000000) (hb : (lastB L).length ≤ 1000000000) :
    Calls Tryz.prog 32 #[.pointer (some ⟨B, 0, none⟩)] w fun e w' => e = .returned (.tuple #[]) ∧ ∃ bv', w'.heap[B]? = some (.cells #[sv, .map (some Bm), bv'] 81 (0, 0)) ∧ OwnR w' base 62 2 sv L.length (qcells L) ∧ OwnR w' base 5 1 bv' 0 [] ∧ FFr w w' sv B := by
  by_cases hn : L = []
  · subst hn
    obtain ⟨ao, c, rfl⟩ := h.seqs.form
    refine (finish_nil B ao c _ bv w h.par).mono ?_
    rintro e w' ⟨rfl, rfl⟩
    exact ⟨rfl, bv, h.par, h.seqs, h.bases, ⟨rfl, rfl, rfl, rfl, fun _ _ _ => rfl⟩⟩
  · obtain ⟨A, y, rfl⟩ := snoc_of hn
    have hs := h.seqs
    have hbs := h.bases
    have hp := h.par
    rw [openL_snoc, List.length_append] at hs
    rw [lastB_snoc] at hbs hb
    obtain ⟨bao, bc, rfl⟩ := hbs.form
    rcases hs.2 with ⟨_, h0⟩ | ⟨g, o, sc, cur, rfl, h1, h2, h3, h4, h5, h6⟩
    · simp at h0
    · have hbc : (bc : Int) ≤ 9223372036854775807 := by
        rcases hbs.2 with ⟨h1, _⟩ | ⟨_, _, _, _, h1, _, _, _, h4, _⟩
        · simp only [Value.slice.injEq] at h1; omega
        · simp only [Value.slice.injEq] at h1; obtain ⟨_, _, rfl⟩ := h1; unfold maxLen at h4; omega
      rw [List.length_append] at hL
      refine (finish_some B base A.length _ g o sc bc bao _ A ⟨y.n, ⟨#[]⟩⟩ rfl y.b.data.toList rfl w hp hs hbs hb (by omega) hbc).mono ?_
      rintro e w' ⟨rfl, hp', hs', hf⟩
      refine ⟨rfl, _, hp', ?_, ?_, hf⟩
      · rw [list_mk] at hs'
        rw [List.length_append]
        exact hs'
      · have : OwnR w' base 5 1 (.slice bao y.b.data.toList.length bc) _ _ := hbs.other (fun j hj hlt => hf.other j (fun e => by subst e; exact hbs.tag (by decide) hp hj) (hbs.apart hs (by decide) hj))
        rcases this.2 with ⟨h1, h0⟩ | ⟨g2, o2, cap, cur2, h1, q1, q2, q3, q4, q5, q6⟩
        · simp only [Value.slice.injEq] at h1
          obtain ⟨rfl, _, rfl⟩ := h1
          exact OwnR.nil _ _ _ _
        · simp only [Value.slice.injEq, true_and] at h1
          obtain ⟨rfl, rfl⟩ := h1
          exact ⟨rfl, Or.inr ⟨g2, o2, bc, cur2, rfl, q1, q2, Nat.zero_le _, q4, q5, fun j u hj => by simp at hj⟩⟩
end Go.Proofs.YtilcmkiihefkkabGreatDoor.Mn
end
section
set_option linter.unusedVariables false
set_option linter.unusedSimpArgs false
set_option maxRecDepth 100000
namespace Go.Proofs.YtilcmkiihefkkabGreatDoor.Mn
open Go.RowKit Go.Maps Go.WideMaps
theorem begin_end {base B Bm g' o' cap' : Nat} {L : List S2} {sv bv : Value} {D : DataW Unit} {d : DataW Unit} {w1 w3 w5 w6 : World} {nm : ByteArray} {ob : Obj}
    (hp : w3.heap[B]? = some (.cells #[sv, .map (some Bm), bv] 81 (0, 0))) (hb : OwnR w3 base 5 1 bv 0 []) (hs : OwnR w3 base 62 2 sv L.length (qcells L))
    (hm : w3.ownsMap Tryz.prog 9 (plainElem Tryz.prog 3) Bm (L.length + 1) (D.put (.string nm.data.toList) d)) (hD : Maps.IsMap D) (hh : ∀ s : ByteArray, Maps.has D (.string s.data.toList) = true ↔ hasN L s)
    (hlow : base ≤ w3.heap.size) (hlB : base ≤ B) (hlM : base ≤ Bm) (hbe : Below base w1 w3)
    (h5 : Below w3.heap.size w3.drew w5) (hown : OwnR w6 base 62 2 (.slice (some ⟨g', o', none⟩) (L.length + 1) cap') (L.length + 1) (qcells L ++ [.string nm, .string ⟨#[]⟩]))
    (hfr : AppFr (w5.alloc ob) w6 sv g') (h6 : w6.heap[B]? = some (.cells #[sv, .map (some Bm), bv] 81 (0, 0))) :
    (∃ sv' bv' D', PrP base B Bm (L ++ [⟨nm, ⟨#[]⟩⟩]) sv' bv' D' (w6.setCell ⟨B, 0, none⟩ (.slice (some ⟨g', o', none⟩) (L.length + 1) cap'))) ∧ Below base w1 (w6.setCell ⟨B, 0, none⟩ (.slice (some ⟨g', o', none⟩) (L.length + 1) cap')) := by
  have hU := Upd.of_setCell (i := 0) (.slice (some ⟨g', o', none⟩) (L.length + 1) cap') h6
  have h5s := h5.size
  have h6s := hfr.size
  simp at h5s h6s
  have hoth : ∀ q, q < w3.heap.size → q ≠ B → sv.ownBlock ≠ some q → (w6.setCell ⟨B, 0, none⟩ (.slice (some ⟨g', o', none⟩) (L.length + 1) cap')).heap[q]? = w3.heap[q]? := fun q hq hqB hqs => by
    rw [hU.other q hqB, hfr.other q (by simp; omega) hqs, Below.heap_alloc w5 ob q (by omega), h5.block q hq]
    rfl
  refine ⟨⟨.slice (some ⟨g', o', none⟩) (L.length + 1) cap', bv, D.put (.string nm.data.toList) d, ⟨hU.here, ?_, ?_, ?_, ?_, ?_, hlB, hlM⟩⟩, ?_⟩
  · rw [openL_snoc, List.length_append, qcells_append]
    exact hown.other (fun g hg _ => hU.other g (fun e => by subst e; exact hown.tag (by decide) h6 hg))
  · rw [lastB_snoc]
    exact hb.other (fun g hg hlt => hoth g hlt (fun e => by subst e; exact hb.tag (by decide) hp hg) (hb.apart hs (by decide) hg))
  · rw [List.length_append]
    exact ownsMap_block hm (hoth Bm hm.lt (fun e => ownsMap_ne hm hp e.symm) (hs.neMap hm))
  · intro s
    by_cases hsn : s = nm
    · subst hsn
      constructor
      · intro _
        exact ⟨⟨s, ⟨#[]⟩⟩, by simp, rfl⟩
      · intro _
        exact Maps.has_put_same hD (show WideAt.IsKeyLit (.string s.data.toList) from trivial) d
    · have hne : (Lit.string s.data.toList) ≠ Lit.string nm.data.toList := fun e => hsn (by
        simp only [Lit.string.injEq] at e
        exact WideShapes.bytes_inj e)
      rw [Maps.has_put_other hne, hh s]
      constructor
      · rintro ⟨x, hx, hxs⟩
        exact ⟨x, by simp [hx], hxs⟩
      · rintro ⟨x, hx, hxs⟩
        rw [List.mem_append] at hx
        rcases hx with hx | hx
        · exact ⟨x, hx, hxs⟩
        · simp at hx
          subst hx
          exact absurd hxs.symm hsn
  · rw [hU.size]; omega
  · have h0 := hbe.size
    refine ⟨hU.os.trans (hfr.os.trans (h5.os.trans hbe.os)), hU.tape.trans (hfr.tape.trans (h5.tape.trans hbe.tape)), hU.output.trans (hfr.output.trans (h5.output.trans hbe.output)), by rw [hU.size]; omega, fun q hq => ?_⟩
    rw [hoth q (by omega) (by omega) (fun he => by have := (hs.lt he).1; omega)]
    exact hbe.block q hq
set_option maxHeartbeats 4000000 in
set_option maxRecDepth 100000 in
theorem begin_any (base B Bm : Nat) (L : List S2) (sv bv : Value) (D : DataW Unit) (w : World) (nm : ByteArray) (h : PrP base B Bm L sv bv D w) (hL : L.length ≤ 100000000) (hb : (lastB L).length ≤ 1000000000) (hnz : nm.size ≤ 8000) :
    Calls Tryz.prog 49 #[.pointer (some ⟨B, 0, none⟩), .string nm] w fun e w' =>
      ((¬ nameOK nm ∧ e = .returned (.int .i64 4)) ∨ (nameOK nm ∧ hasN L nm ∧ e = .returned (.int .i64 5)) ∨
        (nameOK nm ∧ ¬ hasN L nm ∧ e = .returned (.int .i64 0) ∧ ∃ sv' bv' D', PrP base B Bm (L ++ [⟨nm, ⟨#[]⟩⟩]) sv' bv' D' w')) ∧ Below base w w' := by
  obtain ⟨i0, hi, hz0, hz1, hz2⟩ := info_parts Tryz.info62
  have HPR : Hid (PrP base B Bm L sv bv D w) := h
  have hkey := keyOf_string_mk (P := Tryz.prog) Tryz.underlying9 (s := nm) (by unfold maxLen; omega)
  have hmap := h.map
  have c1 : w.cell? ⟨B, 1, none⟩ = some (.map (some Bm)) := cell_at h.par rfl
  have hhs := h.has nm
  have HHS : Hid (Maps.has D (.string nm.data.toList) = true ↔ hasN L nm) := hhs
  clear h hhs
  go_enter Tryz.func49, Tryz.ntmps49
  go_wp2_with fail
  refine (nameMayBe_any nm w hnz).mono ?_
  rintro e w1 ⟨h1, rfl⟩
  rcases h1 with ⟨hok, rfl⟩ | ⟨hok, rfl⟩
  · have HOK : Hid (nameOK nm) := hok
    clear hok
    cases hh : Maps.has D (.string nm.data.toList)
    · have HNH : Hid (¬ hasN L nm) := fun h => by rw [HHS.out.2 h] at hh; exact absurd hh (by simp)
      go_wp2_with (at_lookup; refine wpList_lookup_own_ok_int _ rfl _ _ 79 rfl 9 3 .i64 law9 Tryz.underlying79 Tryz.underlying3 (zero3 _) Bm L.length D rfl hmap _ _ rfl hkey ?_; intro c hat hwc; rw [hh])
      refine (finish_any base B Bm L sv bv D _ HPR.out hL hb).mono ?_
      rintro e w2 ⟨rfl, bv2, hp2, hs2, hb2, hf2⟩
      have hmap2 : w2.ownsMap Tryz.prog 9 (plainElem Tryz.prog 3) Bm L.length D := ownsMap_block HPR.out.map (hf2.other Bm (fun e => ownsMap_ne HPR.out.map HPR.out.par e.symm) (HPR.out.seqs.neMap HPR.out.map))
      have HP2 : Hid (w2.heap[B]? = some (.cells #[sv, .map (some Bm), bv2] 81 (0, 0))) := hp2
      have HS2 : Hid (OwnR w2 base 62 2 sv L.length (qcells L)) := hs2
      have HB2 : Hid (OwnR w2 base 5 1 bv2 0 []) := hb2
      have HF2 : Hid (FFr w1 w2 sv B) := hf2
      have d0 : w2.cell? ⟨B, 0, none⟩ = some sv := cell_at hp2 rfl
      have d1 : w2.cell? ⟨B, 1, none⟩ = some (.map (some Bm)) := cell_at hp2 rfl
      obtain ⟨ao, sc, hsv⟩ := hs2.form
      subst hsv
      clear hp2 hs2 hb2 hf2 hmap c1
      go_wp2
      obtain ⟨w3, hrun, hmap3, hg3⟩ := hmap2.drew.update law9 Tryz.underlying79 (by unfold maxLen; omega) hkey (plainElem_int (a := (L.length : Int)) Tryz.underlying3 (WalkArith.wf_i64 (by omega)))
      go_region
      have hBM : B ≠ Bm := ownsMap_ne hmap2 HP2.out
      have hltB := lt_of_block HP2.out
      have hg3s := hg3.size
      have hoth3 : ∀ q, q < w2.heap.size → q ≠ Bm → w3.heap[q]? = w2.heap[q]? := fun q hq hne => hg3.block q hq (fun e => hne (Option.some.inj e))
      have HO3 : Hid (∀ q, q < w2.heap.size → q ≠ Bm → w3.heap[q]? = w2.heap[q]?) := hoth3
      have hp3 : w3.heap[B]? = some (.cells #[.slice ao L.length sc, .map (some Bm), bv2] 81 (0, 0)) := (hoth3 B hltB hBM).trans HP2.out
      have hs3 : OwnR w3 base 62 2 (.slice ao L.length sc) L.length (qcells L) := HS2.out.other (fun g hg hlt => hoth3 g hlt (fun e => by subst e; exact HS2.out.neMap hmap2 hg))
      have hb3 : OwnR w3 base 5 1 bv2 0 [] := HB2.out.other (fun g hg hlt => hoth3 g hlt (fun e => by subst e; exact HB2.out.neMap hmap2 hg))
      have HP3 : Hid (w3.heap[B]? = some (.cells #[.slice ao L.length sc, .map (some Bm), bv2] 81 (0, 0))) := hp3
      have HB3 : Hid (OwnR w3 base 5 1 bv2 0 []) := hb3
      have HS3 : Hid (OwnR w3 base 62 2 (.slice ao L.length sc) L.length (qcells L)) := hs3
      have HM3 : Hid (w3.ownsMap Tryz.prog 9 (plainElem Tryz.prog 3) Bm (L.length + 1) (D.put (.string nm.data.toList) (.lit (.int .i64 (L.length : Int))))) := hmap3
      have HSZ : Hid (w2.heap.size ≤ w3.heap.size) := hg3s
      have HBE3 : Hid (Below base w1 w3) := by
        have hf := HF2.out
        refine ⟨hg3.os.trans hf.os, hg3.tape.trans hf.tape, hg3.output.trans hf.output, by have := HSZ.out; have := hf.size; omega, fun q hq => ?_⟩
        have h1 := HPR.out.low
        have h2 := HPR.out.lowB
        have h3 := HPR.out.lowM
        rw [hoth3 q (by have := hf.size; omega) (by omega), hf.other q (by omega) (fun he => by have := (HPR.out.seqs.lt he).1; omega)]
      have k0 : w3.cell? ⟨B, 0, none⟩ = some (.slice ao L.length sc) := cell_at hp3 rfl
      have hlow3 : base ≤ w3.heap.size := by have := HBE3.out.size; have := HPR.out.low; omega
      have hnm1 : 1 ≤ nm.size := HOK.out.1
      have hB3 : B < w3.heap.size := lt_of_block hp3
      clear hrun hmap3 hg3 hg3s hoth3 hp3 hs3 hb3 d0 d1 hmap2 hat hwc
      go_wp2
      go_region_law (first | (refine step_own rfl (.tmp 36) (.tmp 40) 48 rfl 62 i0 _ 2 32 Tryz.underlying48 hi hz0 hz1 hz2 rfl (by decide) base (.slice ao L.length sc) L.length (qcells L) (by simp [Act.eval]) (by exact hs5.other (fun g _ hlt => Below.heap_alloc _ _ _ hlt)) ⟨w5.heap.size, 0, none⟩ 1 [.string nm, .string ⟨#[]⟩] (by simp [Act.eval]) rfl (by exact pbox_cells _ _ _ _ _ rfl) (seq_oneCell _ _) (by unfold maxLen; omega) (by omega) (by have := HH5.out.size; simp at this ⊢; omega) ?_; intro g' o' cap' w6 hown6 hfr6; have hB6 : w6.heap[B]? = some (.cells #[.slice ao L.length sc, .map (some Bm), bv2] 81 (0, 0)) := (hfr6.other B (by simp; omega) (HS3.out.tag (by decide) HP3.out)).trans ((Below.heap_alloc w5 _ B h5B).trans HB5.out); have k6 := cell_at hB6 (i := 0) rfl; have f6 : w6.frozen? ⟨B, 0, none⟩ = false := frozen_of_row _ _ _ _ _ hB6; have HB6 : Hid _ := hB6; clear hB6) | (go_simp; go_at_call 63; refine (sclone_any nm _ hnm1 hnz).mono ?_; rintro e w5 ⟨rfl, hb5⟩; have hB5 : w5.heap[B]? = some (.cells #[.slice ao L.length sc, .map (some Bm), bv2] 81 (0, 0)) := (hb5.block B hB3).trans HP3.out; have hs5 : OwnR w5 base 62 2 (.slice ao L.length sc) L.length (qcells L) := HS3.out.other (fun g _ hlt => hb5.block g hlt); have k5 : w5.cell? ⟨B, 0, none⟩ = some (.slice ao L.length sc) := cell_at hB5 rfl; have k5a : ∀ ob, (w5.alloc ob).cell? ⟨B, 0, none⟩ = some (.slice ao L.length sc) := (fun ob => cell_at ((Below.heap_alloc w5 ob B (lt_of_block hB5)).trans hB5) rfl); have h5B := lt_of_block hB5; have HB5 : Hid _ := hB5; have HH5 : Hid (Below w3.heap.size w3.drew w5) := hb5; clear hB5 hb5))
      all_goals go_wp2
      all_goals go_ret
      all_goals (obtain ⟨r1, r2⟩ := begin_end HP3.out HB3.out HS3.out HM3.out HPR.out.map.isMap HPR.out.has hlow3 HPR.out.lowB HPR.out.lowM HBE3.out HH5.out hown6 hfr6 HB6.out)
      all_goals exact ⟨Or.inr (Or.inr ⟨HOK.out, HNH.out, rfl, r1⟩), r2⟩
    · have HNH : Hid (hasN L nm) := HHS.out.1 hh
      go_wp2_with (at_lookup; refine wpList_lookup_own_ok_int _ rfl _ _ 79 rfl 9 3 .i64 law9 Tryz.underlying79 Tryz.underlying3 (zero3 _) Bm L.length D rfl hmap _ _ rfl hkey ?_; intro c hat hwc; rw [hh])
      go_ret
      exact ⟨Or.inr (Or.inl ⟨HOK.out, HNH.out, rfl⟩), Below.refl _ _⟩
  · have HOK : Hid (¬ nameOK nm) := hok
    clear hok
    go_wp2
    go_ret
    exact ⟨Or.inl ⟨HOK.out, rfl⟩, Below.refl _ _⟩
end Go.Proofs.YtilcmkiihefkkabGreatDoor.Mn
end
