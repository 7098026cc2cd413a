import Derived.Test.YtilcmkiihefkkaaGreatDoorJt30
import Derived.Test.YtilcmkiihefkkaaGreatDoorJt31
section
set_option linter.unusedVariables false
set_option linter.unusedSimpArgs false
set_option maxRecDepth 100000
namespace Go.Proofs.YtilcmkiihefkkaaGreatDoor
open Go.RowKit Go.Shelf
/-- a byte and its number, or none of both -/
def numOf (o : Option UInt8) : Nat × UInt8 := match o with
  | some c => ((numb c).toNat, c)
  | none => (9, 0)
theorem numOf_eq (a b : Option UInt8) (ha : ∀ c, a = some c → 0 ≤ numb c) (hb : ∀ c, b = some c → 0 ≤ numb c) : ((numOf a).1 = (numOf b).1 ↔ (numOf a).2 = (numOf b).2) ∧ ((numOf a).1 = 4 ↔ (numOf a).2 = 78) := by
  have f : ∀ (o : Option UInt8), (∀ c, o = some c → 0 ≤ numb c) → numOf o ∈ ([(0, 65), (1, 67), (2, 71), (3, 84), (4, 78), (9, 0)] : List (Nat × UInt8)) := by
    intro o ho
    cases o with
    | none => simp [numOf]
    | some c =>
      have h := ho c rfl
      show ((numb c).toNat, c) ∈ _
      rcases numb_cases c with ⟨rfl, e⟩ | ⟨rfl, e⟩ | ⟨rfl, e⟩ | ⟨rfl, e⟩ | ⟨rfl, e⟩ | ⟨e, _⟩
      · rw [e]; decide
      · rw [e]; decide
      · rw [e]; decide
      · rw [e]; decide
      · rw [e]; decide
      · omega
  have h1 := f a ha
  have h2 := f b hb
  generalize numOf a = x at h1
  generalize numOf b = y at h2
  revert h1 h2
  have key : ∀ x ∈ ([(0, 65), (1, 67), (2, 71), (3, 84), (4, 78), (9, 0)] : List (Nat × UInt8)), ∀ y ∈ ([(0, 65), (1, 67), (2, 71), (3, 84), (4, 78), (9, 0)] : List (Nat × UInt8)), (x.1 = y.1 ↔ x.2 = y.2) ∧ (x.1 = 4 ↔ x.2 = 78) := by decide
  intro h1 h2
  exact key x h1 y h2
theorem nums_opt (l : List UInt8) (i : Nat) : (nums l).getD i 9 = (numOf l[i]?).1 ∧ l.getD i 0 = (numOf l[i]?).2 := by
  unfold nums
  rw [List.getD_eq_getElem?_getD, List.getElem?_map, List.getD_eq_getElem?_getD]
  cases l[i]? <;> exact ⟨rfl, rfl⟩
theorem good_opt {s : ByteArray} (h : good s) (i : Nat) : ∀ c, s.data.toList[i]? = some c → 0 ≤ numb c := fun c hc => (good_iff s).1 h c (List.mem_of_getElem? hc)
theorem sN_sR {read ref : ByteArray} (h1 : good read) (h2 : good ref) : sN (nums read.data.toList) (nums ref.data.toList) = sR read ref := by
  funext i j
  unfold sN sR sB
  obtain ⟨a1, a2⟩ := nums_opt read.data.toList i
  obtain ⟨b1, b2⟩ := nums_opt ref.data.toList j
  obtain ⟨k1, k2⟩ := numOf_eq _ _ (good_opt h1 i) (good_opt h2 j)
  rw [a1, a2, b1, b2]
  exact decide_eq_decide.2 (and_congr k1 (not_congr k2))
theorem uN_uR {read ref : ByteArray} (h1 : good read) (h2 : good ref) : uN (nums read.data.toList) (nums ref.data.toList) = uR read ref := by
  funext i j
  have h := congrFun (congrFun (sN_sR h1 h2) i) j
  have e1 : uN (nums read.data.toList) (nums ref.data.toList) i j = if sN (nums read.data.toList) (nums ref.data.toList) i j = true then 0 else 4 := by
    unfold uN prC sN
    simp only [decide_eq_true_eq]
  have e2 : uR read ref i j = if sR read ref i j = true then 0 else 4 := rfl
  rw [e1, e2, h]
theorem pth_fwd {read ref : ByteArray} (h1 : good read) (h2 : good ref) (hn : read.size ≤ 300) (hm : ref.size ≤ 600) : (pth (nums read.data.toList) (nums ref.data.toList)).reverse = fwd read ref := by
  have l1 : (nums read.data.toList).length = read.size := by rw [nums_length]; simp
  have l2 : (nums ref.data.toList).length = ref.size := by rw [nums_length]; simp
  unfold pth fwd
  rw [l1, l2, uN_uR h1 h2, path_same 1048576 1000000000 (by omega) (by omega) (uR read ref) (uR_bd read ref) _ _ _ 0 hn hm]
theorem cnt_fwd {read ref : ByteArray} (h1 : good read) (h2 : good ref) (hn : read.size ≤ 300) (hm : ref.size ≤ 600) : cntF (sR read ref) (fwd read ref) (0, 0) = cntB (sN (nums read.data.toList) (nums ref.data.toList)) (pth (nums read.data.toList) (nums ref.data.toList)) (nums read.data.toList).length (nums ref.data.toList).length := by
  have l1 : (nums read.data.toList).length = read.size := by rw [nums_length]; simp
  have l2 : (nums ref.data.toList).length = ref.size := by rw [nums_length]; simp
  rw [← pth_fwd h1 h2 hn hm, sN_sR h1 h2]
  refine cnt_same _ _ _ _ ?_
  unfold pth
  rw [uN_uR h1 h2]
  exact path_ends 1048576 (by omega) (uR read ref) (uR_bd read ref) _ _ _ 0 (by omega) (by omega) (Nat.le_refl _)
theorem scT_fwd {read ref : ByteArray} (h1 : good read) (h2 : good ref) (hn : read.size ≤ 300) (hm : ref.size ≤ 600) :
    scE read.data.toList ref.data.toList = 0 ∧ scT read.data.toList ref.data.toList = rtxt (rl (fwd read ref) (fwd read ref).length).2 ∧ scN read.data.toList ref.data.toList = cntF (sR read ref) (fwd read ref) (0, 0) := by
  have e1 : read.data.toList.length = read.size := by simp
  have e2 : ref.data.toList.length = ref.size := by simp
  have hE : scE read.data.toList ref.data.toList = 0 := by
    unfold scE
    rw [e1, e2, if_neg (by omega), if_pos ⟨(good_iff read).1 h1, (good_iff ref).1 h2⟩]
  refine ⟨hE, ?_, ?_⟩
  · unfold scT
    rw [if_pos hE, ← pth_fwd h1 h2 hn hm, List.length_reverse]
  · unfold scN
    rw [if_pos hE, cnt_fwd h1 h2 hn hm]
end Go.Proofs.YtilcmkiihefkkaaGreatDoor
end
section
set_option linter.unusedVariables false
set_option linter.unusedSimpArgs false
set_option maxRecDepth 100000
namespace Go.Proofs.YtilcmkiihefkkaaGreatDoor
open Go.RowKit Go.Shelf
theorem stF_ends (L : List Nat) : (∀ x ∈ L, x ≤ 2) → ends L.reverse (L.foldl stF (0, 0)).1 (L.foldl stF (0, 0)).2 := by
  have key : ∀ (t : List Nat), (∀ x ∈ t, x ≤ 2) → ends t (t.reverse.foldl stF (0, 0)).1 (t.reverse.foldl stF (0, 0)).2 := by
    intro t
    induction t with
    | nil => intro _; exact ⟨rfl, rfl⟩
    | cons l t ih =>
      intro h
      have hl := h l (List.mem_cons_self ..)
      have ih' := ih (fun x hx => h x (List.mem_cons_of_mem _ hx))
      rw [List.reverse_cons, List.foldl_append, List.foldl_cons, List.foldl_nil]
      generalize t.reverse.foldl stF (0, 0) = p at ih' ⊢
      obtain ⟨i, j⟩ := p
      rcases (show l = 0 ∨ l = 1 ∨ l = 2 by omega) with rfl | rfl | rfl <;> exact ⟨by omega, fun _ => by simp [stF] <;> omega, fun _ => by simp [stF] <;> omega, by simpa [stF] using ih'⟩
  intro h
  have := key L.reverse (fun x hx => h x (List.mem_reverse.1 hx))
  rwa [List.reverse_reverse] at this
/-- NO OTHER SCRIPT IS CHEAPER, and none as cheap is ahead -/
theorem cheapest (read ref : ByteArray) (hn : read.size ≤ 300) (hm : ref.size ≤ 600) (O : List Nat) (hO : ∀ x ∈ O, x ≤ 2) (he : O.foldl stF (0, 0) = (read.size, ref.size)) :
    cst (uR read ref) (fwd read ref).reverse read.size ref.size ≤ cst (uR read ref) O.reverse read.size ref.size ∧
    (cst (uR read ref) O.reverse read.size ref.size = cst (uR read ref) (fwd read ref).reverse read.size ref.size → ¬ ahd O.reverse (fwd read ref).reverse) := by
  have e1 : (fwd read ref).reverse = path 1000000000 (uR read ref) (read.size + ref.size) read.size ref.size 0 := by unfold fwd; rw [List.reverse_reverse]
  have hends := stF_ends O hO
  rw [he] at hends
  have h1 := path_cost 1000000000 (by omega) (uR read ref) (uR_bd read ref) (read.size + ref.size) read.size ref.size 0 hn hm (Nat.le_refl _) (by omega)
  have h2 := cst_ge 1000000000 (by omega) (uR read ref) O.reverse read.size ref.size 0 (by omega) hends
  have j0 : ∀ t, jn 0 t = 0 := fun t => by simp [jn]
  rw [j0] at h1 h2
  rw [e1]
  refine ⟨by omega, fun h => ?_⟩
  exact path_first 1000000000 (by omega) (uR read ref) (uR_bd read ref) _ _ _ 0 O.reverse (by omega) hends (by rw [j0]; omega)
theorem fwd_le (read ref : ByteArray) : ∀ x ∈ fwd read ref, x ≤ 2 := fun x hx => path_le _ _ _ _ _ _ x (List.mem_reverse.1 hx)
theorem fwd_len (read ref : ByteArray) : (fwd read ref).length ≤ read.size + ref.size := by
  have := path_len 1000000000 (uR read ref) (read.size + ref.size) read.size ref.size 0
  unfold fwd
  rw [List.length_reverse]
  exact this
end Go.Proofs.YtilcmkiihefkkaaGreatDoor
end
