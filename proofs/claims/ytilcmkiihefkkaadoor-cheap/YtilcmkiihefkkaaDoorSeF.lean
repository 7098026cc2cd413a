import Derived.Test.YtilcmkiihefkkaaDoorSeE
set_option linter.unusedVariables false
set_option linter.unusedSimpArgs false
set_option maxRecDepth 100000
namespace Go.Proofs.YtilcmkiihefkkaaDoor
open Go.RowKit Go.Shelf

/-- the numbers of bases -/
def nums (l : List UInt8) : List Nat := l.map fun c => (numb c).toNat

theorem nums_length (l : List UInt8) : (nums l).length = l.length := by simp [nums]

theorem nums_get (s : ByteArray) (j : Nat) (h : j < s.size) : (nums s.data.toList).getD j 9 = (numb s[j]).toNat := by
  have h' : j < s.data.toList.length := by simpa using h
  unfold nums
  rw [List.getD_eq_getElem?_getD, List.getElem?_map, List.getElem?_eq_getElem h']
  rfl

theorem nums_take (s : ByteArray) (k : Nat) (h : k < s.size) : (nums s.data.toList).take (k + 1) = (nums s.data.toList).take k ++ [(numb s[k]).toNat] := by
  have h' : k < (nums s.data.toList).length := by rw [nums_length]; simpa using h
  rw [List.take_succ_eq_append_getElem h', ← nums_get s k h]
  simp [h']

/-- the letters of the program's script, from the end -/
def pth (R F : List Nat) : List Nat := path 1048576 (uN R F) (R.length + F.length) R.length F.length 0

theorem path_len (N : Int) (u : Nat → Nat → Int) : ∀ f i j x, (path N u f i j x).length ≤ f
  | 0, _, _, _ => Nat.le_refl _
  | f + 1, i, j, x => by
    rw [path]
    split
    · exact Nat.zero_le _
    · simp only [List.length_cons]
      have := path_len N u f (if nx (cel N u i j) x = 2 then i else i - 1) (if nx (cel N u i j) x = 1 then j else j - 1) (nx (cel N u i j) x)
      omega

theorem path_le (N : Int) (u : Nat → Nat → Int) : ∀ f i j x, ∀ y ∈ path N u f i j x, y ≤ 2
  | 0, _, _, _, y, h => by cases h
  | f + 1, i, j, x, y, h => by
    rw [path] at h
    split at h
    · cases h
    · rcases List.mem_cons.1 h with rfl | h
      · exact nx_le _ _
      · exact path_le N u f _ _ _ y h

/-- what Script tells -/
def scE (read ref : List UInt8) : Nat := if read.length > 300 ∨ ref.length > 600 then 1 else if (∀ c ∈ read, 0 ≤ numb c) ∧ (∀ c ∈ ref, 0 ≤ numb c) then 0 else 2
def scT (read ref : List UInt8) : List UInt8 := if scE read ref = 0 then rtxt (rl (pth (nums read) (nums ref)).reverse (pth (nums read) (nums ref)).length).2 else []
def scN (read ref : List UInt8) : Nat := if scE read ref = 0 then cntB (sN (nums read) (nums ref)) (pth (nums read) (nums ref)) (nums read).length (nums ref).length else 0

theorem good_iff (s : ByteArray) : good s ↔ ∀ c ∈ s.data.toList, 0 ≤ numb c := by
  constructor
  · intro h c hc
    obtain ⟨j, hj, rfl⟩ := List.getElem_of_mem hc
    exact h j (by simpa using hj)
  · intro h j hj
    exact h _ (by
      have : s[j] = s.data.toList[j]'(by simpa using hj) := rfl
      rw [this]; exact List.getElem_mem _)

/-- while the columns are made -/
def ClI (F : List Nat) (w : World) (B : Nat) (vw : Value) (k : Nat) (wx : World) : Prop :=
  ∃ vr v0, wx.heap[B]? = some (.cells #[.slice none 0 0, vr, vw] 50 (0, 0)) ∧ OwnR wx w.heap.size 3 1 vr k (numV (F.take k)) ∧ OwnR wx w.heap.size 45 1 vw 1 [v0] ∧
    OwnR wx w.heap.size 47 3 v0 (k + 1) (celsL (row0 1048576) (k + 1)) ∧ Below w.heap.size w wx

theorem enterCol (args : Array Value) (w : World) : (callFunc 14 args).run Tryd.prog w = .ok (.enter 14 args) w := enters_of Tryd.func14 (by kernel_rfl) rfl args w
theorem enterRow (args : Array Value) (w : World) : (callFunc 15 args).run Tryd.prog w = .ok (.enter 15 args) w := enters_of Tryd.func15 (by kernel_rfl) rfl args w

theorem ClI.step (ref : ByteArray) (w : World) (B : Nat) (vw : Value) (hB : w.heap.size ≤ B) (hm : ref.size ≤ 600) (k : Nat) (hk : k < ref.size) (wx : World) (hn : 0 ≤ numb ref[k]) (h : ClI (nums ref.data.toList) w B vw k wx) :
    Calls Tryd.prog 14 #[.pointer (some ⟨B, 0, none⟩), .int .i64 k, .int .i64 (numb ref[k])] wx fun e w' => e = .returned (.tuple #[]) ∧ ClI (nums ref.data.toList) w B vw (k + 1) w' := by
  obtain ⟨vr, v0, h1, h2, h3, h4, h5⟩ := h
  have hl := numb_lt ref[k]
  obtain ⟨x, hx⟩ : ∃ x : Nat, numb ref[k] = x := ⟨(numb ref[k]).toNat, by omega⟩
  have hok := cel_okB [] [] 0 k (by omega) (by omega)
  have hcel : cel 1048576 (uN [] []) 0 k = row0 1048576 k := rfl
  rw [hcel] at hok
  have hav := hok.av 2
  have hc := col_any w.heap.size B k x (row0 1048576) ((nums ref.data.toList).take k) (.slice none 0 0) vr vw v0 wx (by omega) (by omega) hB hok.big ⟨by omega, hav.1⟩ h1 h2 h3 h4
  rw [hx]
  refine hc.mono ?_
  rintro e w' ⟨rfl, vr', v0', g1, g2, g3, g4, g5⟩
  refine ⟨rfl, vr', v0', g1, ?_, g3, ?_, h5.trans g5⟩
  · rw [nums_take ref k hk, hx]; exact g2
  · rw [celsL_succ]; exact g4

/-- while the rows are made -/
def RwI (R F : List Nat) (w : World) (B : Nat) (vf : Value) (k : Nat) (wx : World) : Prop :=
  ∃ vr vw VS, wx.heap[B]? = some (.cells #[vr, vf, vw] 50 (0, 0)) ∧ OwnR wx w.heap.size 3 1 vr k (numV (R.take k)) ∧ OwnR wx w.heap.size 3 1 vf F.length (numV F) ∧ OwnR wx w.heap.size 45 1 vw (k + 1) VS ∧
    (∀ i, i ≤ k → ∃ v, VS[i]? = some v ∧ OwnR wx w.heap.size 47 3 v (F.length + 1) (celsL (cel 1048576 (uN R F) i) (F.length + 1))) ∧ (∀ g, vr.ownBlock = some g → vf.ownBlock ≠ some g) ∧ Below w.heap.size w wx

theorem RwI.step (read : ByteArray) (F : List Nat) (w : World) (B : Nat) (vf : Value) (hB : w.heap.size ≤ B) (hn : read.size ≤ 300) (hm : F.length ≤ 600) (k : Nat) (hk : k < read.size) (wx : World) (hp : 0 ≤ numb read[k]) (h : RwI (nums read.data.toList) F w B vf k wx) :
    Calls Tryd.prog 15 #[.pointer (some ⟨B, 0, none⟩), .int .i64 k, .int .i64 (numb read[k])] wx fun e w' => e = .returned (.tuple #[]) ∧ RwI (nums read.data.toList) F w B vf (k + 1) w' := by
  obtain ⟨vr, vw, VS, h1, h2, h3, h4, h5, h6, h7⟩ := h
  have hl := numb_lt read[k]
  obtain ⟨x, hx⟩ : ∃ x : Nat, numb read[k] = x := ⟨(numb read[k]).toNat, by omega⟩
  obtain ⟨va, hva, ha⟩ := h5 k (Nat.le_refl _)
  have hxg : x = (nums read.data.toList).getD k 9 := by rw [nums_get read k hk, hx]; rfl
  have hvl : VS.length = k + 1 := by have := h4.1; omega
  have hc := row_any w.heap.size B k x F.length (cel 1048576 (uN (nums read.data.toList) F) k) (cel 1048576 (uN (nums read.data.toList) F) (k + 1)) F ((nums read.data.toList).take k) vr vf vw va VS wx rfl hm (by omega) hB
    (by rw [hxg]; rfl) (fun t ht => cel_okB _ _ k t (by omega) (by omega)) (fun t ht => cel_okB _ _ (k + 1) t (by omega) (by omega)) h1 h2 h3 h4 hva ha h6
  rw [hx]
  refine hc.mono ?_
  rintro e w' ⟨rfl, vr', vw', vn, g1, g2, g3, g4, g5, g6, g7, g8⟩
  refine ⟨rfl, vr', vw', VS ++ [vn], g1, ?_, g3, g4, fun i hi => ?_, g6, h7.trans g8⟩
  · rw [nums_take read k hk, hx]; exact g2
  · by_cases hik : i ≤ k
    · obtain ⟨v, hv, ho⟩ := h5 i hik
      exact ⟨v, by rw [List.getElem?_append_left (by omega)]; exact hv, g7 v _ _ ho⟩
    · have hi1 : i = k + 1 := by omega
      subst hi1
      refine ⟨vn, ?_, g5⟩
      rw [List.getElem?_append_right (by omega), hvl]
      simp
end Go.Proofs.YtilcmkiihefkkaaDoor
