import Derived.Test.YtilcmkiihefkkaaDoorSgJ
set_option linter.unusedVariables false
set_option linter.unusedSimpArgs false
set_option maxRecDepth 1000000
namespace Go.Proofs.YtilcmkiihefkkaaDoor
open Go.RowKit Go.Shelf

set_option maxHeartbeats 16000000 in
theorem rletters_any (read ref : ByteArray) (hn : read.size ≤ 300) (hm : ref.size ≤ 600) (w0 w : World) (G : Nat) (hT : TbI read ref w0 w G (read.size + 1)) :
    Calls Tryd.prog 29 #[.pointer (some ⟨G, 0, none⟩)] w fun e w' => e = .returned (.string (lets (path 1000000000 (uR read ref) (read.size + ref.size) read.size ref.size 0))) ∧ Below w.heap.size w w' := by
  obtain ⟨gM, oM, cM, gI, oI, cI, gD, oD, cD, bM, bI, bD, hgl⟩ := hT.gl
  have HGL : Hid (∀ W, Below w.heap.size w W → GL read ref W G (.slice (some ⟨gM, oM, none⟩) (read.size + 1) cM) (.slice (some ⟨gI, oI, none⟩) (read.size + 1) cI) (.slice (some ⟨gD, oD, none⟩) (read.size + 1) cD) gM oM gI oI gD oD bM bI bD) := hgl
  obtain ⟨z0, z1, z2, z3, z4, zr, zc⟩ := hgl w (Below.refl _ _)
  obtain ⟨r1, r2, r3⟩ := zr read.size (Nat.le_refl _)
  obtain ⟨s1, s2, s3⟩ := zc read.size ref.size (Nat.le_refl _) (Nat.le_refl _)
  have hok := cel_okB9 read ref read.size ref.size hn hm
  have HN0 := nx0c (cel 1000000000 (uR read ref) read.size ref.size) _ rfl
  obtain ⟨cc, hcc⟩ : ∃ c, c = cel 1000000000 (uR read ref) read.size ref.size := ⟨_, rfl⟩
  have HCC : Hid (cc = cel 1000000000 (uR read ref) read.size ref.size) := hcc
  rw [← hcc] at s1 s2 s3 hok HN0
  obtain ⟨cm, ci, cd⟩ := cc
  unfold okB at hok
  simp only at s1 s2 s3 hok
  have ha : aM ⟨cm, ci, cd⟩ = min cm (min ci cd) := rfl
  rw [ha] at HN0
  have cL := fun a b W => less_any a b W
  have hnI : (read.size : Int) < (read.size : Int) + 1 := by omega
  have hmI : (ref.size : Int) < (ref.size : Int) + 1 := by omega
  clear hgl zr zc hcc hT ha
  go_enter Tryd.func29, Tryd.ntmps29
  go_wp2_with fail
  refine wp_region_X 33 (fun W => W.cell? ⟨G, 2, none⟩ = some (.slice (some ⟨gM, oM, none⟩) (read.size + 1) cM) ∧ W.cell? ⟨G, 3, none⟩ = some (.slice (some ⟨gI, oI, none⟩) (read.size + 1) cI) ∧ W.cell? ⟨G, 4, none⟩ = some (.slice (some ⟨gD, oD, none⟩) (read.size + 1) cD) ∧ W.cell? ⟨gM, oM + read.size, none⟩ = some (.slice (some ⟨bM read.size, 0, none⟩) (ref.size + 1) (ref.size + 1)) ∧ W.cell? ⟨gI, oI + read.size, none⟩ = some (.slice (some ⟨bI read.size, 0, none⟩) (ref.size + 1) (ref.size + 1)) ∧ W.cell? ⟨gD, oD + read.size, none⟩ = some (.slice (some ⟨bD read.size, 0, none⟩) (ref.size + 1) (ref.size + 1)) ∧ W.cell? ⟨bM read.size, ref.size, none⟩ = some (.int .i64 cm) ∧ W.cell? ⟨bI read.size, ref.size, none⟩ = some (.int .i64 ci) ∧ W.cell? ⟨bD read.size, ref.size, none⟩ = some (.int .i64 cd)) (by kernel_rfl) ⟨z2, z3, z4, r1, r2, r3, s1, s2, s3⟩ (fun hH => ?_)
  refine wpAnyX_take (i := 0) (v := ?_) rfl (by kernel_rfl) (by kernel_rfl) (by kernel_rfl) (by kernel_rfl) (fun _ _ _ h => h) (Or.inl ⟨by rfl, ?_⟩) hH ?_
  rotate_left
  · intro W hS; (try dsimp only at hS); go_simp; all_goals (with_reducible rfl)
  try simp only [Act.put, List.setIfInBounds_toArray, List.set_cons_zero, List.set_cons_succ]
  refine wpAnyX_take (i := 1) (v := ?_) rfl (by kernel_rfl) (by kernel_rfl) (by kernel_rfl) (by kernel_rfl) (fun _ _ _ h => h) (Or.inl ⟨by rfl, ?_⟩) hH ?_
  rotate_left
  · intro W hS; (try dsimp only at hS); go_simp; all_goals (with_reducible rfl)
  try simp only [Act.put, List.setIfInBounds_toArray, List.set_cons_zero, List.set_cons_succ]
  refine wpAnyX_take (i := 2) (v := ?_) rfl (by kernel_rfl) (by kernel_rfl) (by kernel_rfl) (by kernel_rfl) (fun _ _ _ h => h) (Or.inl ⟨by rfl, ?_⟩) hH ?_
  rotate_left
  · intro W hS; (try dsimp only at hS); go_simp; all_goals (with_reducible rfl)
  try simp only [Act.put, List.setIfInBounds_toArray, List.set_cons_zero, List.set_cons_succ]
  refine wpAnyX_take (i := 3) (v := ?_) rfl (by kernel_rfl) (by kernel_rfl) (by kernel_rfl) (by kernel_rfl) (fun _ _ _ h => h) (Or.inl ⟨by rfl, ?_⟩) hH ?_
  rotate_left
  · intro W hS; (try dsimp only at hS); go_simp; all_goals (with_reducible rfl)
  try simp only [Act.put, List.setIfInBounds_toArray, List.set_cons_zero, List.set_cons_succ]
  refine wpAnyX_take (i := 4) (v := ?_) rfl (by kernel_rfl) (by kernel_rfl) (by kernel_rfl) (by kernel_rfl) (fun _ _ _ h => h) (Or.inl ⟨by rfl, ?_⟩) hH ?_
  rotate_left
  · intro W hS; (try dsimp only at hS); go_simp; all_goals (with_reducible rfl)
  try simp only [Act.put, List.setIfInBounds_toArray, List.set_cons_zero, List.set_cons_succ]
  refine wpAnyX_take (i := 5) (v := ?_) rfl (by kernel_rfl) (by kernel_rfl) (by kernel_rfl) (by kernel_rfl) (fun _ _ _ h => h) (Or.inl ⟨by rfl, ?_⟩) hH ?_
  rotate_left
  · intro W hS; (try dsimp only at hS); go_simp; all_goals (with_reducible rfl)
  try simp only [Act.put, List.setIfInBounds_toArray, List.set_cons_zero, List.set_cons_succ]
  refine wpAnyX_take (i := 6) (v := ?_) rfl (by kernel_rfl) (by kernel_rfl) (by kernel_rfl) (by kernel_rfl) (fun _ _ _ h => h) (Or.inl ⟨by rfl, ?_⟩) hH ?_
  rotate_left
  · intro W hS; (try dsimp only at hS); go_simp; all_goals (with_reducible rfl)
  try simp only [Act.put, List.setIfInBounds_toArray, List.set_cons_zero, List.set_cons_succ]
  refine wpAnyX_take (i := 7) (v := ?_) rfl (by kernel_rfl) (by kernel_rfl) (by kernel_rfl) (by kernel_rfl) (fun _ _ _ h => h) (Or.inl ⟨by rfl, ?_⟩) hH ?_
  rotate_left
  · intro W hS; (try dsimp only at hS); go_simp; all_goals (with_reducible rfl)
  try simp only [Act.put, List.setIfInBounds_toArray, List.set_cons_zero, List.set_cons_succ]
  refine wpAnyX_take (i := 8) (v := ?_) rfl (by kernel_rfl) (by kernel_rfl) (by kernel_rfl) (by kernel_rfl) (fun _ _ _ h => h) (Or.inl ⟨by rfl, ?_⟩) hH ?_
  rotate_left
  · intro W hS; (try dsimp only at hS); go_simp; all_goals (with_reducible rfl)
  try simp only [Act.put, List.setIfInBounds_toArray, List.set_cons_zero, List.set_cons_succ]
  refine wpAnyX_take (i := 9) (v := ?_) rfl (by kernel_rfl) (by kernel_rfl) (by kernel_rfl) (by kernel_rfl) (fun _ _ _ h => h) (Or.inl ⟨by rfl, ?_⟩) hH ?_
  rotate_left
  · intro W hS; (try dsimp only at hS); go_simp; all_goals (with_reducible rfl)
  try simp only [Act.put, List.setIfInBounds_toArray, List.set_cons_zero, List.set_cons_succ]
  refine wpAnyX_take (i := 10) (v := ?_) rfl (by kernel_rfl) (by kernel_rfl) (by kernel_rfl) (by kernel_rfl) (fun _ _ _ h => h) (Or.inl ⟨by rfl, ?_⟩) hH ?_
  rotate_left
  · intro W hS; (try dsimp only at hS); go_simp; all_goals (with_reducible rfl)
  try simp only [Act.put, List.setIfInBounds_toArray, List.set_cons_zero, List.set_cons_succ]
  refine wpAnyX_take (i := 11) (v := ?_) rfl (by kernel_rfl) (by kernel_rfl) (by kernel_rfl) (by kernel_rfl) (fun _ _ _ h => h) (Or.inl ⟨by rfl, ?_⟩) hH ?_
  rotate_left
  · intro W hS; (try dsimp only at hS); go_simp; all_goals (with_reducible rfl)
  try simp only [Act.put, List.setIfInBounds_toArray, List.set_cons_zero, List.set_cons_succ]
  refine wpAnyX_take (i := 12) (v := ?_) rfl (by kernel_rfl) (by kernel_rfl) (by kernel_rfl) (by kernel_rfl) (fun _ _ _ h => h) (Or.inl ⟨by rfl, ?_⟩) hH ?_
  rotate_left
  · intro W hS; (try dsimp only at hS); go_simp; all_goals (with_reducible rfl)
  try simp only [Act.put, List.setIfInBounds_toArray, List.set_cons_zero, List.set_cons_succ]
  refine wpAnyX_take (i := 13) (v := ?_) rfl (by kernel_rfl) (by kernel_rfl) (by kernel_rfl) (by kernel_rfl) (fun _ _ _ h => h) (Or.inl ⟨by rfl, ?_⟩) hH ?_
  rotate_left
  · intro W hS; (try dsimp only at hS); go_simp; all_goals (with_reducible rfl)
  try simp only [Act.put, List.setIfInBounds_toArray, List.set_cons_zero, List.set_cons_succ]
  refine wpAnyX_take (i := 14) (v := ?_) rfl (by kernel_rfl) (by kernel_rfl) (by kernel_rfl) (by kernel_rfl) (fun _ _ _ h => h) (Or.inl ⟨by rfl, ?_⟩) hH ?_
  rotate_left
  · intro W hS; (try dsimp only at hS); go_simp; all_goals (with_reducible rfl)
  try simp only [Act.put, List.setIfInBounds_toArray, List.set_cons_zero, List.set_cons_succ]
  refine wpAnyX_take (i := 15) (v := ?_) rfl (by kernel_rfl) (by kernel_rfl) (by kernel_rfl) (by kernel_rfl) (fun _ _ _ h => h) (Or.inl ⟨by rfl, ?_⟩) hH ?_
  rotate_left
  · intro W hS; (try dsimp only at hS); go_simp; all_goals (with_reducible rfl)
  try simp only [Act.put, List.setIfInBounds_toArray, List.set_cons_zero, List.set_cons_succ]
  refine wpAnyX_take (i := 16) (v := ?_) rfl (by kernel_rfl) (by kernel_rfl) (by kernel_rfl) (by kernel_rfl) (fun _ _ _ h => h) (Or.inl ⟨by rfl, ?_⟩) hH ?_
  rotate_left
  · intro W hS; (try dsimp only at hS); go_simp; all_goals (with_reducible rfl)
  try simp only [Act.put, List.setIfInBounds_toArray, List.set_cons_zero, List.set_cons_succ]
  refine wpAnyX_take (i := 17) (v := ?_) rfl (by kernel_rfl) (by kernel_rfl) (by kernel_rfl) (by kernel_rfl) (fun _ _ _ h => h) (Or.inl ⟨by rfl, ?_⟩) hH ?_
  rotate_left
  · intro W hS; (try dsimp only at hS); go_simp; all_goals (with_reducible rfl)
  try simp only [Act.put, List.setIfInBounds_toArray, List.set_cons_zero, List.set_cons_succ]
  refine wpAnyX_take (i := 18) (v := ?_) rfl (by kernel_rfl) (by kernel_rfl) (by kernel_rfl) (by kernel_rfl) (fun _ _ _ h => h) (Or.inl ⟨by rfl, ?_⟩) hH ?_
  rotate_left
  · intro W hS; (try dsimp only at hS); go_simp; all_goals (with_reducible rfl)
  try simp only [Act.put, List.setIfInBounds_toArray, List.set_cons_zero, List.set_cons_succ]
  refine wpAnyX_take (i := 19) (v := ?_) rfl (by kernel_rfl) (by kernel_rfl) (by kernel_rfl) (by kernel_rfl) (fun _ _ _ h => h) (Or.inl ⟨by rfl, ?_⟩) hH ?_
  rotate_left
  · intro W hS; (try dsimp only at hS); go_simp; all_goals (with_reducible rfl)
  try simp only [Act.put, List.setIfInBounds_toArray, List.set_cons_zero, List.set_cons_succ]
  refine wpAnyX_take (i := 20) (v := ?_) rfl (by kernel_rfl) (by kernel_rfl) (by kernel_rfl) (by kernel_rfl) (fun _ _ _ h => h) (Or.inl ⟨by rfl, ?_⟩) hH ?_
  rotate_left
  · intro W hS; (try dsimp only at hS); go_simp; all_goals (with_reducible rfl)
  try simp only [Act.put, List.setIfInBounds_toArray, List.set_cons_zero, List.set_cons_succ]
  refine wpAnyX_take (i := 21) (v := ?_) rfl (by kernel_rfl) (by kernel_rfl) (by kernel_rfl) (by kernel_rfl) (fun _ _ _ h => h) (Or.inl ⟨by rfl, ?_⟩) hH ?_
  rotate_left
  · intro W hS; (try dsimp only at hS); go_simp; all_goals (with_reducible rfl)
  try simp only [Act.put, List.setIfInBounds_toArray, List.set_cons_zero, List.set_cons_succ]
  refine wpAnyX_take (i := 22) (v := ?_) rfl (by kernel_rfl) (by kernel_rfl) (by kernel_rfl) (by kernel_rfl) (fun _ _ _ h => h) (Or.inl ⟨by rfl, ?_⟩) hH ?_
  rotate_left
  · intro W hS; (try dsimp only at hS); go_simp; all_goals (with_reducible rfl)
  try simp only [Act.put, List.setIfInBounds_toArray, List.set_cons_zero, List.set_cons_succ]
  refine wpAnyX_take (i := 23) (v := ?_) rfl (by kernel_rfl) (by kernel_rfl) (by kernel_rfl) (by kernel_rfl) (fun _ _ _ h => h) (Or.inl ⟨by rfl, ?_⟩) hH ?_
  rotate_left
  · intro W hS; (try dsimp only at hS); go_simp; all_goals (with_reducible rfl)
  try simp only [Act.put, List.setIfInBounds_toArray, List.set_cons_zero, List.set_cons_succ]
  refine wpAnyX_take (i := 24) (v := ?_) rfl (by kernel_rfl) (by kernel_rfl) (by kernel_rfl) (by kernel_rfl) (fun _ _ _ h => h) (Or.inl ⟨by rfl, ?_⟩) hH ?_
  rotate_left
  · intro W hS; (try dsimp only at hS); go_simp; all_goals (with_reducible rfl)
  try simp only [Act.put, List.setIfInBounds_toArray, List.set_cons_zero, List.set_cons_succ]
  refine wpAnyX_take (i := 25) (v := ?_) rfl (by kernel_rfl) (by kernel_rfl) (by kernel_rfl) (by kernel_rfl) (fun _ _ _ h => h) (Or.inl ⟨by rfl, ?_⟩) hH ?_
  rotate_left
  · intro W hS; (try dsimp only at hS); go_simp; all_goals (with_reducible rfl)
  try simp only [Act.put, List.setIfInBounds_toArray, List.set_cons_zero, List.set_cons_succ]
  refine wpAnyX_take (i := 26) (v := ?_) rfl (by kernel_rfl) (by kernel_rfl) (by kernel_rfl) (by kernel_rfl) (fun _ _ _ h => h) (Or.inl ⟨by rfl, ?_⟩) hH ?_
  rotate_left
  · intro W hS; (try dsimp only at hS); go_simp; all_goals (with_reducible rfl)
  try simp only [Act.put, List.setIfInBounds_toArray, List.set_cons_zero, List.set_cons_succ]
  refine wpAnyX_take (i := 27) (v := ?_) rfl (by kernel_rfl) (by kernel_rfl) (by kernel_rfl) (by kernel_rfl) (fun _ _ _ h => h) (Or.inl ⟨by rfl, ?_⟩) hH ?_
  rotate_left
  · intro W hS; (try dsimp only at hS); go_simp; all_goals (with_reducible rfl)
  try simp only [Act.put, List.setIfInBounds_toArray, List.set_cons_zero, List.set_cons_succ]
  refine wpAnyX_take (i := 28) (v := ?_) rfl (by kernel_rfl) (by kernel_rfl) (by kernel_rfl) (by kernel_rfl) (fun _ _ _ h => h) (Or.inl ⟨by rfl, ?_⟩) hH ?_
  rotate_left
  · intro W hS; (try dsimp only at hS); go_simp; all_goals (with_reducible rfl)
  try simp only [Act.put, List.setIfInBounds_toArray, List.set_cons_zero, List.set_cons_succ]
  refine wpAnyX_take (i := 29) (v := ?_) rfl (by kernel_rfl) (by kernel_rfl) (by kernel_rfl) (by kernel_rfl) (fun _ _ _ h => h) (Or.inl ⟨by rfl, ?_⟩) hH ?_
  rotate_left
  · intro W hS; (try dsimp only at hS); go_simp; all_goals (with_reducible rfl)
  try simp only [Act.put, List.setIfInBounds_toArray, List.set_cons_zero, List.set_cons_succ]
  refine wpAnyX_step (i := 30) (by kernel_rfl) rfl (by kernel_rfl) (fun K hK => ?_)
  go_simp
  go_at_call 36
  refine (cL _ _ _).mono ?_
  rintro e w1 ⟨rfl, rfl⟩
  refine hK.out _ _ hH ?_
  clear hK K
  try simp only [Act.put, List.setIfInBounds_toArray, List.set_cons_zero, List.set_cons_succ]
  refine wpAnyX_step (i := 31) (by kernel_rfl) rfl (by kernel_rfl) (fun K hK => ?_)
  go_simp
  go_at_call 36
  refine (cL _ _ _).mono ?_
  rintro e w1 ⟨rfl, rfl⟩
  refine hK.out _ _ hH ?_
  clear hK K
  try simp only [Act.put, List.setIfInBounds_toArray, List.set_cons_zero, List.set_cons_succ]
  refine wpAnyX_take (i := 32) (v := ?_) rfl (by kernel_rfl) (by kernel_rfl) (by kernel_rfl) (by kernel_rfl) (fun _ _ _ h => h) (Or.inl ⟨by rfl, ?_⟩) hH ?_
  rotate_left
  · intro W hS; (try dsimp only at hS); go_simp; all_goals (with_reducible rfl)
  try simp only [Act.put, List.setIfInBounds_toArray, List.set_cons_zero, List.set_cons_succ]
  refine wpAnyX_done (by kernel_rfl) ?_
  clear hH
  obtain ⟨a, haa⟩ : ∃ a, a = min cm (min ci cd) := ⟨_, rfl⟩
  rw [← haa] at HN0 ⊢
  have hab : 0 ≤ a ∧ a ≤ 1500000000 := by omega
  clear haa
  have HST : Hid (∀ l, l = nx (cel 1000000000 (uR read ref) read.size ref.size) 0 → a = pv (cel 1000000000 (uR read ref) read.size ref.size) l → LtI read ref w w.drew read.size ref.size l a ⟨#[]⟩) := by
    intro l h1 h2
    exact ⟨[], read.size + ref.size, 0, Nat.le_refl _, Nat.le_refl _, Nat.le_refl _, by simp, h1, h2, rfl, rfl, belDrewN (Below.refl _ _) 1⟩
  rw [← HCC.out] at HST
  have d0 : w.drew.cell? ⟨G, 2, none⟩ = some (.slice (some ⟨gM, oM, none⟩) (read.size + 1) cM) := z2
  have d1 : w.drew.cell? ⟨G, 3, none⟩ = some (.slice (some ⟨gI, oI, none⟩) (read.size + 1) cI) := z3
  have d2 : w.drew.cell? ⟨gM, oM + read.size, none⟩ = some (.slice (some ⟨bM read.size, 0, none⟩) (ref.size + 1) (ref.size + 1)) := r1
  have d3 : w.drew.cell? ⟨gI, oI + read.size, none⟩ = some (.slice (some ⟨bI read.size, 0, none⟩) (ref.size + 1) (ref.size + 1)) := r2
  have d4 : w.drew.cell? ⟨bM read.size, ref.size, none⟩ = some (.int .i64 cm) := s1
  have d5 : w.drew.cell? ⟨bI read.size, ref.size, none⟩ = some (.int .i64 ci) := s2
  have HNN : Hid ((cm = a ∧ nx ⟨cm, ci, cd⟩ 0 = 0 ∧ a = pv ⟨cm, ci, cd⟩ 0) ∨ (¬ cm = a ∧ ci = a ∧ nx ⟨cm, ci, cd⟩ 0 = 1 ∧ a = pv ⟨cm, ci, cd⟩ 1) ∨ (¬ cm = a ∧ ¬ ci = a ∧ nx ⟨cm, ci, cd⟩ 0 = 2 ∧ a = pv ⟨cm, ci, cd⟩ 2)) := HN0
  clear HN0 z2 z3 z4 r1 r2 r3 s1 s2 s3 z0 z1
  go_upto_if 61 with fail
  go_cut [6] from 8 (fun lv wc => wc = w.drew ∧ ∃ l, lv = .string ⟨#[ltr l]⟩ ∧ ((ci = a ∧ l = 1) ∨ (¬ ci = a ∧ l = 2)))
  case first =>
    by_cases h1 : ci = a
    · have h1b : (ci == a) = true := by rw [beq_iff_eq]; exact h1
      have H1 : Hid (ci = a) := h1
      clear h1
      go_wp2_with fail
      go_meet
      case rel => exact ⟨rfl, 1, rfl, Or.inl ⟨H1.out, rfl⟩⟩
    · have h1b : (ci == a) = false := by rw [beq_eq_false_iff_ne]; exact h1
      have H1 : Hid (¬ ci = a) := h1
      clear h1
      go_wp2_with fail
      go_meet
      case rel => exact ⟨rfl, 2, rfl, Or.inr ⟨H1.out, rfl⟩⟩
  case rest =>
    obtain ⟨rfl, l0, rfl, hl0⟩ := hcut
    have HL0 : Hid ((ci = a ∧ l0 = 1) ∨ (¬ ci = a ∧ l0 = 2)) := hl0
    clear hl0
    go_upto_if 73 with fail
    go_cut [6] from 8 (fun lv wc => wc = w.drew ∧ ∃ l, lv = .string ⟨#[ltr l]⟩ ∧ l = nx ⟨cm, ci, cd⟩ 0 ∧ a = pv ⟨cm, ci, cd⟩ l)
    case first =>
      by_cases h1 : cm = a
      · have h1b : (cm == a) = true := by rw [beq_iff_eq]; exact h1
        have H1 : Hid (cm = a) := h1
        clear h1
        go_wp2_with fail
        go_meet
        case rel =>
          rcases HNN.out with h | h | h
          · exact ⟨rfl, 0, rfl, h.2.1.symm, h.2.2⟩
          · exact absurd H1.out h.1
          · exact absurd H1.out h.1
      · have h1b : (cm == a) = false := by rw [beq_eq_false_iff_ne]; exact h1
        have H1 : Hid (¬ cm = a) := h1
        clear h1
        go_wp2_with fail
        go_meet
        case rel =>
          refine ⟨rfl, l0, rfl, ?_⟩
          rcases HNN.out with h | h | h
          · exact absurd h.1 H1.out
          · rcases HL0.out with g | g
            · rw [g.2]; exact ⟨h.2.2.1.symm, h.2.2.2⟩
            · exact absurd h.2.1 g.1
          · rcases HL0.out with g | g
            · exact absurd g.1 h.2.1
            · rw [g.2]; exact ⟨h.2.2.1.symm, h.2.2.2⟩
    case rest =>
      obtain ⟨rfl, l1, rfl, hl1, hl2⟩ := hcut
      have HS0 : Hid (LtI read ref w w.drew read.size ref.size l1 a ⟨#[]⟩) := HST.out l1 hl1 hl2
      have cU := fun x y W => unlike_any x y W
      clear hl1 hl2 HL0 HNN HST HCC d0 d1 d2 d3 d4 d5 hok cL
      go_wp2_with fail
      refine lt_loop read ref hn hm w G gM oM cM gI oI cI gD oD cD bM bI bD HGL.out _ ?_ ?_ _ rfl read.size ref.size l1 a ⟨#[]⟩ _ _ _ _ _ _ _ _ _ _ _ _ _ _ _ _ _ _ _ _ _ _ _ _ _ _ _ _ _ _ _ _ _ _ _ _ _ _ _ _ _ _ _ _ _ _ _ _ _ _ _ _ _ _ _ _ _ _ _ _ _ _ _ _ _ _ _ _ _ _ _ _ _ _ _ _ _ _ _ _ _ _ _ _ _ _ _ _ _ _ _ _ _ _ _ _ _ _ _ _ _ _ _ _ _ _ _ _ _ _ _ _ _ _ _ _ _ _ _ _ _ _ _ _ _ _ _ _ _ _ _ _ _ _ _ _ _ _ _ _ _ _ _ _ _ _ _ _ _ _ _ _ _ _ _ _ _ _ _ _ _ _ _ _ _ _ _ _ _ _ _ _ _ _ _ _ _ _ _ _ _ _ _ _ _ _ _ _ _ _ _ _ _ _ _ _ _ _ _ HS0.out
      · intro c a d v w h
        cases d <;> exact h
      · intro a' w2 hX
        unfold LX at hX
        obtain ⟨v3, hX⟩ := hX
        obtain ⟨v4, hX⟩ := hX
        obtain ⟨v5, hX⟩ := hX
        obtain ⟨v6, hX⟩ := hX
        obtain ⟨xu8, hX⟩ := hX
        obtain ⟨xu9, hX⟩ := hX
        obtain ⟨xu10, hX⟩ := hX
        obtain ⟨xu11, hX⟩ := hX
        obtain ⟨xu12, hX⟩ := hX
        obtain ⟨xu13, hX⟩ := hX
        obtain ⟨xu14, hX⟩ := hX
        obtain ⟨xu15, hX⟩ := hX
        obtain ⟨xu16, hX⟩ := hX
        obtain ⟨xu17, hX⟩ := hX
        obtain ⟨xu18, hX⟩ := hX
        obtain ⟨xu19, hX⟩ := hX
        obtain ⟨xu20, hX⟩ := hX
        obtain ⟨xu21, hX⟩ := hX
        obtain ⟨xu22, hX⟩ := hX
        obtain ⟨xu23, hX⟩ := hX
        obtain ⟨xu24, hX⟩ := hX
        obtain ⟨xu25, hX⟩ := hX
        obtain ⟨xu26, hX⟩ := hX
        obtain ⟨xu27, hX⟩ := hX
        obtain ⟨xu28, hX⟩ := hX
        obtain ⟨xu29, hX⟩ := hX
        obtain ⟨xu30, hX⟩ := hX
        obtain ⟨xu31, hX⟩ := hX
        obtain ⟨xu32, hX⟩ := hX
        obtain ⟨xu33, hX⟩ := hX
        obtain ⟨xu34, hX⟩ := hX
        obtain ⟨xu35, hX⟩ := hX
        obtain ⟨xu36, hX⟩ := hX
        obtain ⟨xu37, hX⟩ := hX
        obtain ⟨xu38, hX⟩ := hX
        obtain ⟨xu39, hX⟩ := hX
        obtain ⟨xu40, hX⟩ := hX
        obtain ⟨xu41, hX⟩ := hX
        obtain ⟨xu42, hX⟩ := hX
        obtain ⟨xu43, hX⟩ := hX
        obtain ⟨xu44, hX⟩ := hX
        obtain ⟨xu45, hX⟩ := hX
        obtain ⟨xu46, hX⟩ := hX
        obtain ⟨xu47, hX⟩ := hX
        obtain ⟨xu48, hX⟩ := hX
        obtain ⟨xu49, hX⟩ := hX
        obtain ⟨xu50, hX⟩ := hX
        obtain ⟨xu51, hX⟩ := hX
        obtain ⟨xu52, hX⟩ := hX
        obtain ⟨xu53, hX⟩ := hX
        obtain ⟨xu54, hX⟩ := hX
        obtain ⟨xu55, hX⟩ := hX
        obtain ⟨xu56, hX⟩ := hX
        obtain ⟨xu57, hX⟩ := hX
        obtain ⟨xu58, hX⟩ := hX
        obtain ⟨xu59, hX⟩ := hX
        obtain ⟨xu60, hX⟩ := hX
        obtain ⟨xu61, hX⟩ := hX
        obtain ⟨xu62, hX⟩ := hX
        obtain ⟨xu63, hX⟩ := hX
        obtain ⟨xu64, hX⟩ := hX
        obtain ⟨xu65, hX⟩ := hX
        obtain ⟨xu66, hX⟩ := hX
        obtain ⟨xu67, hX⟩ := hX
        obtain ⟨xu68, hX⟩ := hX
        obtain ⟨xu69, hX⟩ := hX
        obtain ⟨xu70, hX⟩ := hX
        obtain ⟨xu71, hX⟩ := hX
        obtain ⟨xu72, hX⟩ := hX
        obtain ⟨xu73, hX⟩ := hX
        obtain ⟨xu74, hX⟩ := hX
        obtain ⟨xu75, hX⟩ := hX
        obtain ⟨xu76, hX⟩ := hX
        obtain ⟨xu77, hX⟩ := hX
        obtain ⟨xu78, hX⟩ := hX
        obtain ⟨xu79, hX⟩ := hX
        obtain ⟨xu80, hX⟩ := hX
        obtain ⟨xu81, hX⟩ := hX
        obtain ⟨xu82, hX⟩ := hX
        obtain ⟨xu83, hX⟩ := hX
        obtain ⟨xu84, hX⟩ := hX
        obtain ⟨xu85, hX⟩ := hX
        obtain ⟨xu86, hX⟩ := hX
        obtain ⟨xu87, hX⟩ := hX
        obtain ⟨xu88, hX⟩ := hX
        obtain ⟨xu89, hX⟩ := hX
        obtain ⟨xu90, hX⟩ := hX
        obtain ⟨xu91, hX⟩ := hX
        obtain ⟨xu92, hX⟩ := hX
        obtain ⟨xu93, hX⟩ := hX
        obtain ⟨xu94, hX⟩ := hX
        obtain ⟨xu95, hX⟩ := hX
        obtain ⟨xu96, hX⟩ := hX
        obtain ⟨xu97, hX⟩ := hX
        obtain ⟨xu98, hX⟩ := hX
        obtain ⟨xu99, hX⟩ := hX
        obtain ⟨xu100, hX⟩ := hX
        obtain ⟨xu101, hX⟩ := hX
        obtain ⟨xu102, hX⟩ := hX
        obtain ⟨xu103, hX⟩ := hX
        obtain ⟨xu104, hX⟩ := hX
        obtain ⟨xu105, hX⟩ := hX
        obtain ⟨xu106, hX⟩ := hX
        obtain ⟨xu107, hX⟩ := hX
        obtain ⟨xu108, hX⟩ := hX
        obtain ⟨xu109, hX⟩ := hX
        obtain ⟨xu110, hX⟩ := hX
        obtain ⟨xu111, hX⟩ := hX
        obtain ⟨xu112, hX⟩ := hX
        obtain ⟨xu113, hX⟩ := hX
        obtain ⟨xu114, hX⟩ := hX
        obtain ⟨xu115, hX⟩ := hX
        obtain ⟨xu116, hX⟩ := hX
        obtain ⟨xu117, hX⟩ := hX
        obtain ⟨xu118, hX⟩ := hX
        obtain ⟨xu119, hX⟩ := hX
        obtain ⟨xu120, hX⟩ := hX
        obtain ⟨xu121, hX⟩ := hX
        obtain ⟨xu122, hX⟩ := hX
        obtain ⟨xu123, hX⟩ := hX
        obtain ⟨xu124, hX⟩ := hX
        obtain ⟨xu125, hX⟩ := hX
        obtain ⟨xu126, hX⟩ := hX
        obtain ⟨xu127, hX⟩ := hX
        obtain ⟨xu128, hX⟩ := hX
        obtain ⟨xu129, hX⟩ := hX
        obtain ⟨xu130, hX⟩ := hX
        obtain ⟨xu131, hX⟩ := hX
        obtain ⟨xu132, hX⟩ := hX
        obtain ⟨xu133, hX⟩ := hX
        obtain ⟨xu134, hX⟩ := hX
        obtain ⟨xu135, hX⟩ := hX
        obtain ⟨xu136, hX⟩ := hX
        obtain ⟨xu137, hX⟩ := hX
        obtain ⟨xu138, hX⟩ := hX
        obtain ⟨xu139, hX⟩ := hX
        obtain ⟨xu140, hX⟩ := hX
        obtain ⟨xu141, hX⟩ := hX
        obtain ⟨xu142, hX⟩ := hX
        obtain ⟨xu143, hX⟩ := hX
        obtain ⟨xu144, hX⟩ := hX
        obtain ⟨xu145, hX⟩ := hX
        obtain ⟨xu146, hX⟩ := hX
        obtain ⟨xu147, hX⟩ := hX
        obtain ⟨xu148, hX⟩ := hX
        obtain ⟨xu149, hX⟩ := hX
        obtain ⟨xu150, hX⟩ := hX
        obtain ⟨xu151, hX⟩ := hX
        obtain ⟨xu152, hX⟩ := hX
        obtain ⟨xu153, hX⟩ := hX
        obtain ⟨xu154, hX⟩ := hX
        obtain ⟨xu155, hX⟩ := hX
        obtain ⟨xu156, hX⟩ := hX
        obtain ⟨xu157, hX⟩ := hX
        obtain ⟨xu158, hX⟩ := hX
        obtain ⟨xu159, hX⟩ := hX
        obtain ⟨xu160, hX⟩ := hX
        obtain ⟨xu161, hX⟩ := hX
        obtain ⟨xu162, hX⟩ := hX
        obtain ⟨xu163, hX⟩ := hX
        obtain ⟨xu164, hX⟩ := hX
        obtain ⟨xu165, hX⟩ := hX
        obtain ⟨xu166, hX⟩ := hX
        obtain ⟨xu167, hX⟩ := hX
        obtain ⟨xu168, hX⟩ := hX
        obtain ⟨xu169, hX⟩ := hX
        obtain ⟨xu170, hX⟩ := hX
        obtain ⟨xu171, hX⟩ := hX
        obtain ⟨xu172, hX⟩ := hX
        obtain ⟨xu173, hX⟩ := hX
        obtain ⟨xu174, hX⟩ := hX
        obtain ⟨xu175, hX⟩ := hX
        obtain ⟨xu176, hX⟩ := hX
        obtain ⟨xu177, hX⟩ := hX
        obtain ⟨xu178, hX⟩ := hX
        obtain ⟨xu179, hX⟩ := hX
        obtain ⟨xu180, hX⟩ := hX
        obtain ⟨xu181, hX⟩ := hX
        obtain ⟨xu182, hX⟩ := hX
        obtain ⟨xu183, hX⟩ := hX
        obtain ⟨xu184, hX⟩ := hX
        obtain ⟨xu185, hX⟩ := hX
        obtain ⟨xu186, hX⟩ := hX
        obtain ⟨xu187, hX⟩ := hX
        obtain ⟨xu188, hX⟩ := hX
        obtain ⟨xu189, hX⟩ := hX
        obtain ⟨xu190, hX⟩ := hX
        obtain ⟨xu191, hX⟩ := hX
        obtain ⟨xu192, hX⟩ := hX
        obtain ⟨xu193, hX⟩ := hX
        obtain ⟨xu194, hX⟩ := hX
        obtain ⟨xu195, hX⟩ := hX
        obtain ⟨xu196, hX⟩ := hX
        obtain ⟨xu197, hX⟩ := hX
        obtain ⟨xu198, hX⟩ := hX
        obtain ⟨xu199, hX⟩ := hX
        obtain ⟨xu200, hX⟩ := hX
        obtain ⟨xu201, hX⟩ := hX
        obtain ⟨xu202, hX⟩ := hX
        obtain ⟨xu203, hX⟩ := hX
        obtain ⟨xu204, hX⟩ := hX
        obtain ⟨xu205, hX⟩ := hX
        obtain ⟨hB, ha⟩ := hX
        subst ha
        have HB : Hid (Below w.heap.size w w2) := hB
        clear hB HS0 HGL
        go_wp2_with fail
        go_ret
        exact ⟨rfl, HB.out⟩
end Go.Proofs.YtilcmkiihefkkaaDoor
