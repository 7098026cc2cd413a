import Derived.Test.YtilcmkiihefkkaaDoorSkE
import Derived.Test.YtilcmkiihefkkaaDoorSgG
set_option linter.unusedVariables false
set_option linter.unusedSimpArgs false
set_option maxRecDepth 100000
namespace Go.Proofs.YtilcmkiihefkkaaDoor
open Go.RowKit Go.Shelf

theorem stF_ends (L : List Nat) : (∀ x ∈ L, x ≤ 2) → ends L.reverse (L.foldl stF (0, 0)).1 (L.foldl stF (0, 0)).2 := by
  have key : ∀ (t : List Nat), (∀ x ∈ t, x ≤ 2) → ends t (t.reverse.foldl stF (0, 0)).1 (t.reverse.foldl stF (0, 0)).2 := by
    intro t
    induction t with
    | nil => intro _; exact ⟨rfl, rfl⟩
    | cons l t ih =>
      intro h
      have hl := h l (List.mem_cons_self ..)
      have ih' := ih (fun x hx => h x (List.mem_cons_of_mem _ hx))
      rw [List.reverse_cons, List.foldl_append, List.foldl_cons, List.foldl_nil]
      generalize t.reverse.foldl stF (0, 0) = p at ih' ⊢
      obtain ⟨i, j⟩ := p
      rcases (show l = 0 ∨ l = 1 ∨ l = 2 by omega) with rfl | rfl | rfl <;> exact ⟨by omega, fun _ => by simp [stF] <;> omega, fun _ => by simp [stF] <;> omega, by simpa [stF] using ih'⟩
  intro h
  have := key L.reverse (fun x hx => h x (List.mem_reverse.1 hx))
  rwa [List.reverse_reverse] at this

/-- NO OTHER SCRIPT IS CHEAPER, and none as cheap is ahead -/
theorem cheapest (read ref : ByteArray) (hn : read.size ≤ 300) (hm : ref.size ≤ 600) (O : List Nat) (hO : ∀ x ∈ O, x ≤ 2) (he : O.foldl stF (0, 0) = (read.size, ref.size)) :
    cst (uR read ref) (fwd read ref).reverse read.size ref.size ≤ cst (uR read ref) O.reverse read.size ref.size ∧
    (cst (uR read ref) O.reverse read.size ref.size = cst (uR read ref) (fwd read ref).reverse read.size ref.size → ¬ ahd O.reverse (fwd read ref).reverse) := by
  have e1 : (fwd read ref).reverse = path 1000000000 (uR read ref) (read.size + ref.size) read.size ref.size 0 := by unfold fwd; rw [List.reverse_reverse]
  have hends := stF_ends O hO
  rw [he] at hends
  have h1 := path_cost 1000000000 (by omega) (uR read ref) (uR_bd read ref) (read.size + ref.size) read.size ref.size 0 hn hm (Nat.le_refl _) (by omega)
  have h2 := cst_ge 1000000000 (by omega) (uR read ref) O.reverse read.size ref.size 0 (by omega) hends
  have j0 : ∀ t, jn 0 t = 0 := fun t => by simp [jn]
  rw [j0] at h1 h2
  rw [e1]
  refine ⟨by omega, fun h => ?_⟩
  exact path_first 1000000000 (by omega) (uR read ref) (uR_bd read ref) _ _ _ 0 O.reverse (by omega) hends (by rw [j0]; omega)

theorem fwd_le (read ref : ByteArray) : ∀ x ∈ fwd read ref, x ≤ 2 := fun x hx => path_le _ _ _ _ _ _ x (List.mem_reverse.1 hx)

theorem fwd_len (read ref : ByteArray) : (fwd read ref).length ≤ read.size + ref.size := by
  have := path_len 1000000000 (uR read ref) (read.size + ref.size) read.size ref.size 0
  unfold fwd
  rw [List.length_reverse]
  exact this

/-- the document's example -/
theorem ex_pth : pth (nums [65, 67, 84]) (nums [65, 67, 71, 84]) = [0, 2, 0, 0] := by kernel_rfl
theorem ex_E : scE [65, 67, 84] [65, 67, 71, 84] = 0 := by kernel_rfl
theorem ex_T : scT [65, 67, 84] [65, 67, 71, 84] = [50, 77, 49, 68, 49, 77] := by
  unfold scT
  rw [ex_E, ex_pth, if_pos rfl]
  have e : (rl [0, 2, 0, 0].reverse 4).2 = [(2, 0), (1, 2), (1, 0)] := by kernel_rfl
  show rtxt (rl [0, 2, 0, 0].reverse 4).2 = _
  rw [e]
  simp [rtxt, Lib.decDigits_one, ltr]
theorem ex_N : scN [65, 67, 84] [65, 67, 71, 84] = 3 := by
  unfold scN
  rw [ex_E, ex_pth, if_pos rfl]
  kernel_rfl
end Go.Proofs.YtilcmkiihefkkaaDoor
