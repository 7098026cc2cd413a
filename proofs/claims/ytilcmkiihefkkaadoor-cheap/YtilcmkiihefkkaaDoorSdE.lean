import Derived.Test.YtilcmkiihefkkaaDoorReg
set_option linter.unusedVariables false
set_option linter.unusedSimpArgs false
set_option maxRecDepth 100000
namespace Go.Proofs.YtilcmkiihefkkaaDoor
open Go.RowKit Go.Shelf Go.Lib

set_option maxHeartbeats 4000000 in
theorem col_any (base B k x : Nat) (f : Nat → C3) (F : List Nat) (v1 vr vw v0 : Value) (w : World) (hk : k ≤ 100000) (hx : x < 5) (hbB : base ≤ B)
    (hc : 0 ≤ (f k).m ∧ (f k).m ≤ 2000000000 ∧ 0 ≤ (f k).i ∧ (f k).i ≤ 2000000000 ∧ 0 ≤ (f k).d ∧ (f k).d ≤ 2000000000) (hav : av (f k) 2 ≤ 2000000000 ∧ 0 ≤ av (f k) 2)
    (hB : w.heap[B]? = some (.cells #[v1, vr, vw] 50 (0, 0)))
    (h1 : OwnR w base 3 1 vr k (numV F)) (h2 : OwnR w base 45 1 vw 1 [v0]) (h3 : OwnR w base 47 3 v0 (k + 1) (celsL f (k + 1))) :
    Calls Tryd.prog 14 #[.pointer (some ⟨B, 0, none⟩), .int .i64 k, .int .i64 x] w fun e w' => e = .returned (.tuple #[]) ∧ ∃ vr' v0', w'.heap[B]? = some (.cells #[v1, vr', vw] 50 (0, 0)) ∧
      OwnR w' base 3 1 vr' (k + 1) (numV (F ++ [x])) ∧ OwnR w' base 45 1 vw 1 [v0'] ∧ OwnR w' base 47 3 v0' (k + 2) (celsL f (k + 1) ++ celV ⟨1048576, 1048576, av (f k) 2 + 2⟩) ∧ Below base w w' := by
  obtain ⟨i3, hi3, hz0, hz1, hz2⟩ := info_parts Tryd.info3
  obtain ⟨ic, hic, hy0, hy1, hy2⟩ := info_parts Tryd.infoCell
  obtain ⟨ar, cr, rfl⟩ := h1.shape
  obtain ⟨gw, ow, cw, rfl, hgw1, hgw2⟩ := h2.addr (by omega)
  obtain ⟨g0, o0, c0, rfl, hg01, hg02⟩ := h3.addr (by omega)
  have hltB := lt_of_block hB
  have HB : Hid (w.heap[B]? = some (.cells #[v1, .slice ar k cr, .slice (some ⟨gw, ow, none⟩) 1 cw] 50 (0, 0))) := hB
  have H1 : Hid (OwnR w base 3 1 (.slice ar k cr) k (numV F)) := h1
  have H2 : Hid (OwnR w base 45 1 (.slice (some ⟨gw, ow, none⟩) 1 cw) 1 [.slice (some ⟨g0, o0, none⟩) (k + 1) c0]) := h2
  have H3 : Hid (OwnR w base 47 3 (.slice (some ⟨g0, o0, none⟩) (k + 1) c0) (k + 1) (celsL f (k + 1))) := h3
  have b1 : w.cell? ⟨B, 1, none⟩ = some (.slice ar k cr) := cell_at hB rfl
  have bf : w.frozen? ⟨B, 1, none⟩ = false := frozen_of_row _ _ _ _ _ hB
  have hbw : base ≤ w.heap.size := by omega
  clear hB h1 h2 h3
  go_enter Tryd.func14, Tryd.ntmps14
  go_wp2_with (at_builtin; go_must (refine wpList_own _ rfl (.tmp 10) (.tmp 12) 26 rfl 3 i3 _ 1 8 Tryd.underlying26 hi3 hz0 hz1 hz2 rfl (by decide) base (.slice ar k cr) k (numV F) rfl (by exact H1.out.alloc _) ⟨w.heap.size, 0, none⟩ 1 [.int .i64 x] rfl rfl (by exact box_at w [.int .i64 x] 3 _ rfl) (int_oneCell _ _) (by unfold maxLen; omega) (by omega) (by simp; omega) ?_; intro g' o' cap' w2 hown' hfr; have hB2 : w2.heap[B]? = some (.cells #[v1, .slice ar k cr, .slice (some ⟨gw, ow, none⟩) 1 cw] 50 (0, 0)) := (hfr.other B (by simp; omega) (H1.out.tag (by decide) HB.out)).trans ((Below.heap_alloc _ _ _ hltB).trans HB.out); have HB2 : Hid _ := hB2; have q1 := cell_at hB2 (i := 1) rfl; have qf : w2.frozen? ⟨B, 1, none⟩ = false := frozen_of_row w2 _ _ _ _ hB2; clear hB2))
  obtain ⟨w3, hw3⟩ : ∃ w3 : World, w3 = w2.setCell ⟨B, 1, none⟩ (.slice (some ⟨g', o', none⟩) (k + 1) cap') := ⟨_, rfl⟩
  have HU : Hid (Upd w2 w3 B (.cells #[v1, .slice (some ⟨g', o', none⟩) (k + 1) cap', .slice (some ⟨gw, ow, none⟩) 1 cw] 50 (0, 0))) := by rw [hw3]; exact Upd.of_setCell (i := 1) _ HB2.out
  have hE : numV F ++ [.int .i64 x] = numV (F ++ [x]) := by simp [numV]
  rw [hE] at hown'
  have ha1 := H1.out.alloc (.cells #[.int .i64 x] 3)
  have HR3 : Hid (OwnR w3 base 3 1 (.slice (some ⟨g', o', none⟩) (k + 1) cap') (k + 1) (numV (F ++ [x]))) := by rw [hw3]; exact hown'.setOther _ (hown'.tag (by decide) HB2.out)
  have h22 := (H2.out.alloc (.cells #[.int .i64 x] 3)).app ha1 (by decide) hfr
  have h32 := (H3.out.alloc (.cells #[.int .i64 x] 3)).app ha1 (by decide) hfr
  have h23 : OwnR w3 base 45 1 (.slice (some ⟨gw, ow, none⟩) 1 cw) 1 [.slice (some ⟨g0, o0, none⟩) (k + 1) c0] := by rw [hw3]; exact h22.setOther _ (h22.tag (by decide) HB2.out)
  have h33 : OwnR w3 base 47 3 (.slice (some ⟨g0, o0, none⟩) (k + 1) c0) (k + 1) (celsL f (k + 1)) := by rw [hw3]; exact h32.setOther _ (h32.tag (by decide) HB2.out)
  have HBE : Hid (Below base w w3) := by
    have a := hfr.below (base := base) (fun g hg => (H1.out.lt hg).1) (by simp; omega)
    exact ((((Below.refl base w).alloc hbw _).trans a).trans (HU.out.below hbB))
  have hlt3 : base ≤ w3.heap.size := by have := HBE.out.size; omega
  have H23 : Hid (OwnR w3 base 45 1 (.slice (some ⟨gw, ow, none⟩) 1 cw) 1 [.slice (some ⟨g0, o0, none⟩) (k + 1) c0]) := h23
  have H33 : Hid (OwnR w3 base 47 3 (.slice (some ⟨g0, o0, none⟩) (k + 1) c0) (k + 1) (celsL f (k + 1))) := h33
  have c2 : w3.cell? ⟨B, 2, none⟩ = some (.slice (some ⟨gw, ow, none⟩) 1 cw) := cell_at HU.out.here rfl
  have cw0 := h23.cell (j := 0) rfl
  obtain ⟨d0, d1, d2⟩ := h33.cel k (by omega)
  have hgw3 : gw < w3.heap.size := (h23.lt rfl).2
  have hB3 : B < w3.heap.size := lt_of_block HU.out.here
  have hg03 : g0 < w3.heap.size := (h33.lt rfl).2
  simp only [Nat.add_zero] at cw0
  have fw0 : w3.frozen? ⟨gw, ow, none⟩ = false := h23.frozen _
  have cA := fun W => ahead_any (f k) 2 (by omega) W hc
  rw [← hw3]
  obtain ⟨a2, ha2⟩ : ∃ a, a = av (f k) 2 := ⟨_, rfl⟩
  obtain ⟨n2, hn2⟩ : ∃ a, a = nx (f k) 2 := ⟨_, rfl⟩
  rw [← ha2, ← hn2] at cA
  rw [← ha2] at hav
  have HA2 : Hid (a2 = av (f k) 2) := ha2
  obtain ⟨fm, hfm⟩ : ∃ a, a = (f k).m := ⟨_, rfl⟩
  obtain ⟨fi, hfi⟩ : ∃ a, a = (f k).i := ⟨_, rfl⟩
  obtain ⟨fd, hfd⟩ : ∃ a, a = (f k).d := ⟨_, rfl⟩
  rw [← hfm] at d0 cA
  rw [← hfi] at d1 cA
  rw [← hfd] at d2 cA
  have HFM : Hid (fm = (f k).m) := hfm
  have HFI : Hid (fi = (f k).i) := hfi
  have HFD : Hid (fd = (f k).d) := hfd
  clear hw3 h22 h32 h23 h33 hfr hown' ha1 q1 qf b1 bf hc hE ha2 hn2 hfm hfi hfd
  have hkI : (k : Int) < k + 1 := by omega
  have hwr : IntKind.i64.wrap (a2 + 2) = a2 + 2 := by rw [IntKind.wrap_i64]; omega
  have fld : ∀ W, (Instr.field 53 (.agg #[.int .i64 (n2 : Nat), .int .i64 a2]) 1).run Tryd.prog W = .ok (.int .i64 a2) W := fun _ => by kernel_rfl
  have hgB : ¬ gw = B := fun he => absurd rfl (he ▸ H23.out.tag (by decide) HU.out.here)
  refine wp_region_X 26 (fun w' => w'.cell? ⟨B, 2, none⟩ = some (.slice (some ⟨gw, ow, none⟩) 1 cw) ∧ w'.cell? ⟨gw, ow, none⟩ = some (.slice (some ⟨g0, o0, none⟩) (k + 1) c0) ∧ w'.cell? ⟨g0, o0 + k * 3, none⟩ = some (.int .i64 fm) ∧ w'.cell? ⟨g0, o0 + k * 3 + 1, none⟩ = some (.int .i64 fi) ∧ w'.cell? ⟨g0, o0 + k * 3 + 2, none⟩ = some (.int .i64 fd)) (by kernel_rfl) ⟨c2, cw0, d0, d1, d2⟩ (fun hH => ?_)
  refine wpAnyX_take (i := 0) (v := ?_) rfl (by kernel_rfl) (by kernel_rfl) (by kernel_rfl) (by kernel_rfl) (fun _ _ _ h => h) (Or.inl ⟨by rfl, ?_⟩) hH ?_
  rotate_left
  · intro W hS; (try dsimp only at hS); go_simp; all_goals (with_reducible rfl)
  try simp only [Act.put, List.setIfInBounds_toArray, List.set_cons_zero, List.set_cons_succ]
  refine wpAnyX_take (i := 1) (v := ?_) rfl (by kernel_rfl) (by kernel_rfl) (by kernel_rfl) (by kernel_rfl) (fun _ _ _ h => h) (Or.inl ⟨by rfl, ?_⟩) hH ?_
  rotate_left
  · intro W hS; (try dsimp only at hS); go_simp; all_goals (with_reducible rfl)
  try simp only [Act.put, List.setIfInBounds_toArray, List.set_cons_zero, List.set_cons_succ]
  refine wpAnyX_take (i := 2) (v := ?_) rfl (by kernel_rfl) (by kernel_rfl) (by kernel_rfl) (by kernel_rfl) (fun _ _ _ h => h) (Or.inl ⟨by rfl, ?_⟩) hH ?_
  rotate_left
  · intro W hS; (try dsimp only at hS); go_simp; all_goals (with_reducible rfl)
  try simp only [Act.put, List.setIfInBounds_toArray, List.set_cons_zero, List.set_cons_succ]
  refine wpAnyX_take (i := 3) (v := ?_) rfl (by kernel_rfl) (by kernel_rfl) (by kernel_rfl) (by kernel_rfl) (fun _ _ _ h => h) (Or.inl ⟨by rfl, ?_⟩) hH ?_
  rotate_left
  · intro W hS; (try dsimp only at hS); go_simp; all_goals (with_reducible rfl)
  try simp only [Act.put, List.setIfInBounds_toArray, List.set_cons_zero, List.set_cons_succ]
  refine wpAnyX_take (i := 4) (v := ?_) rfl (by kernel_rfl) (by kernel_rfl) (by kernel_rfl) (by kernel_rfl) (fun _ _ _ h => h) (Or.inl ⟨by rfl, ?_⟩) hH ?_
  rotate_left
  · intro W hS; (try dsimp only at hS); go_simp; all_goals (with_reducible rfl)
  try simp only [Act.put, List.setIfInBounds_toArray, List.set_cons_zero, List.set_cons_succ]
  refine wpAnyX_take (i := 5) (v := ?_) rfl (by kernel_rfl) (by kernel_rfl) (by kernel_rfl) (by kernel_rfl) (fun _ _ _ h => h) (Or.inl ⟨by rfl, ?_⟩) hH ?_
  rotate_left
  · intro W hS; (try dsimp only at hS); go_simp; all_goals (with_reducible rfl)
  try simp only [Act.put, List.setIfInBounds_toArray, List.set_cons_zero, List.set_cons_succ]
  refine wpAnyX_take (i := 6) (v := ?_) rfl (by kernel_rfl) (by kernel_rfl) (by kernel_rfl) (by kernel_rfl) (fun _ _ _ h => h) (Or.inl ⟨by rfl, ?_⟩) hH ?_
  rotate_left
  · intro W hS; (try dsimp only at hS); go_simp; all_goals (with_reducible rfl)
  try simp only [Act.put, List.setIfInBounds_toArray, List.set_cons_zero, List.set_cons_succ]
  refine wpAnyX_take (i := 7) (v := ?_) rfl (by kernel_rfl) (by kernel_rfl) (by kernel_rfl) (by kernel_rfl) (fun _ _ _ h => h) (Or.inl ⟨by rfl, ?_⟩) hH ?_
  rotate_left
  · intro W hS; (try dsimp only at hS); go_simp; all_goals (with_reducible rfl)
  try simp only [Act.put, List.setIfInBounds_toArray, List.set_cons_zero, List.set_cons_succ]
  refine wpAnyX_take (i := 8) (v := ?_) rfl (by kernel_rfl) (by kernel_rfl) (by kernel_rfl) (by kernel_rfl) (fun _ _ _ h => h) (Or.inl ⟨by rfl, ?_⟩) hH ?_
  rotate_left
  · intro W hS; (try dsimp only at hS); go_simp; all_goals (with_reducible rfl)
  try simp only [Act.put, List.setIfInBounds_toArray, List.set_cons_zero, List.set_cons_succ]
  refine wpAnyX_take (i := 9) (v := ?_) rfl (by kernel_rfl) (by kernel_rfl) (by kernel_rfl) (by kernel_rfl) (fun _ _ _ h => h) (Or.inl ⟨by rfl, ?_⟩) hH ?_
  rotate_left
  · intro W hS; (try dsimp only at hS); go_simp; all_goals (with_reducible rfl)
  try simp only [Act.put, List.setIfInBounds_toArray, List.set_cons_zero, List.set_cons_succ]
  refine wpAnyX_take (i := 10) (v := ?_) rfl (by kernel_rfl) (by kernel_rfl) (by kernel_rfl) (by kernel_rfl) (fun _ _ _ h => h) (Or.inl ⟨by rfl, ?_⟩) hH ?_
  rotate_left
  · intro W hS; (try dsimp only at hS); go_simp; all_goals (with_reducible rfl)
  try simp only [Act.put, List.setIfInBounds_toArray, List.set_cons_zero, List.set_cons_succ]
  refine wpAnyX_take (i := 11) (v := ?_) rfl (by kernel_rfl) (by kernel_rfl) (by kernel_rfl) (by kernel_rfl) (fun _ _ _ h => h) (Or.inl ⟨by rfl, ?_⟩) hH ?_
  rotate_left
  · intro W hS; (try dsimp only at hS); go_simp; all_goals (with_reducible rfl)
  try simp only [Act.put, List.setIfInBounds_toArray, List.set_cons_zero, List.set_cons_succ]
  refine wpAnyX_take (i := 12) (v := ?_) rfl (by kernel_rfl) (by kernel_rfl) (by kernel_rfl) (by kernel_rfl) (fun _ _ _ h => h) (Or.inl ⟨by rfl, ?_⟩) hH ?_
  rotate_left
  · intro W hS; (try dsimp only at hS); go_simp; all_goals (with_reducible rfl)
  try simp only [Act.put, List.setIfInBounds_toArray, List.set_cons_zero, List.set_cons_succ]
  refine wpAnyX_take (i := 13) (v := ?_) rfl (by kernel_rfl) (by kernel_rfl) (by kernel_rfl) (by kernel_rfl) (fun _ _ _ h => h) (Or.inl ⟨by rfl, ?_⟩) hH ?_
  rotate_left
  · intro W hS; (try dsimp only at hS); go_simp; all_goals (with_reducible rfl)
  try simp only [Act.put, List.setIfInBounds_toArray, List.set_cons_zero, List.set_cons_succ]
  refine wpAnyX_take (i := 14) (v := ?_) rfl (by kernel_rfl) (by kernel_rfl) (by kernel_rfl) (by kernel_rfl) (fun _ _ _ h => h) (Or.inl ⟨by rfl, ?_⟩) hH ?_
  rotate_left
  · intro W hS; (try dsimp only at hS); go_simp; all_goals (with_reducible rfl)
  try simp only [Act.put, List.setIfInBounds_toArray, List.set_cons_zero, List.set_cons_succ]
  refine wpAnyX_take (i := 15) (v := ?_) rfl (by kernel_rfl) (by kernel_rfl) (by kernel_rfl) (by kernel_rfl) (fun _ _ _ h => h) (Or.inl ⟨by rfl, ?_⟩) hH ?_
  rotate_left
  · intro W hS; (try dsimp only at hS); go_simp; all_goals (with_reducible rfl)
  try simp only [Act.put, List.setIfInBounds_toArray, List.set_cons_zero, List.set_cons_succ]
  refine wpAnyX_take (i := 16) (v := ?_) rfl (by kernel_rfl) (by kernel_rfl) (by kernel_rfl) (by kernel_rfl) (fun _ _ _ h => h) (Or.inl ⟨by rfl, ?_⟩) hH ?_
  rotate_left
  · intro W hS; (try dsimp only at hS); go_simp; all_goals (with_reducible rfl)
  try simp only [Act.put, List.setIfInBounds_toArray, List.set_cons_zero, List.set_cons_succ]
  refine wpAnyX_take (i := 17) (v := ?_) rfl (by kernel_rfl) (by kernel_rfl) (by kernel_rfl) (by kernel_rfl) (fun _ _ _ h => h) (Or.inl ⟨by rfl, ?_⟩) hH ?_
  rotate_left
  · intro W hS; (try dsimp only at hS); go_simp; all_goals (with_reducible rfl)
  try simp only [Act.put, List.setIfInBounds_toArray, List.set_cons_zero, List.set_cons_succ]
  refine wpAnyX_take (i := 18) (v := ?_) rfl (by kernel_rfl) (by kernel_rfl) (by kernel_rfl) (by kernel_rfl) (fun _ _ _ h => h) (Or.inl ⟨by rfl, ?_⟩) hH ?_
  rotate_left
  · intro W hS; (try dsimp only at hS); go_simp; all_goals (with_reducible rfl)
  try simp only [Act.put, List.setIfInBounds_toArray, List.set_cons_zero, List.set_cons_succ]
  refine wpAnyX_step (i := 19) (by kernel_rfl) rfl (by kernel_rfl) (fun K hK => ?_)
  go_simp
  go_at_call 22
  refine (cA _).mono ?_
  rintro e w5 ⟨rfl, hb5⟩
  have h5 : Below w3.heap.size w3 w5 := ⟨hb5.os, hb5.tape, hb5.output, hb5.size, hb5.block⟩
  have HB5 : Hid (Below w3.heap.size w3 w5) := h5
  have hs5 := h5.size
  have e0 := (h5.cell (p := ⟨B, 2, none⟩) hB3).trans c2
  have e1 := (h5.cell (p := ⟨gw, ow, none⟩) hgw3).trans cw0
  have e2 := (h5.cell (p := ⟨g0, o0 + k * 3, none⟩) hg03).trans d0
  have e3 := (h5.cell (p := ⟨g0, o0 + k * 3 + 1, none⟩) hg03).trans d1
  have e4 := (h5.cell (p := ⟨g0, o0 + k * 3 + 2, none⟩) hg03).trans d2
  clear h5 hb5 hH
  have hH := And.intro e0 (And.intro e1 (And.intro e2 (And.intro e3 e4)))
  refine hK.out _ _ hH ?_
  clear hK K
  try simp only [Act.put, List.setIfInBounds_toArray, List.set_cons_zero, List.set_cons_succ]
  refine wpAnyX_take (i := 20) (v := ?_) rfl (by kernel_rfl) (by kernel_rfl) (by kernel_rfl) (by kernel_rfl) (fun _ _ _ h => h) (Or.inl ⟨by rfl, ?_⟩) hH ?_
  rotate_left
  · intro W hS; (try dsimp only at hS); go_simp; all_goals (with_reducible rfl)
  try simp only [Act.put, List.setIfInBounds_toArray, List.set_cons_zero, List.set_cons_succ]
  refine wpAnyX_take (i := 21) (v := ?_) rfl (by kernel_rfl) (by kernel_rfl) (by kernel_rfl) (by kernel_rfl) (fun _ _ _ h => h) (Or.inl ⟨by rfl, ?_⟩) hH ?_
  rotate_left
  · intro W hS; (try dsimp only at hS); go_simp; all_goals (with_reducible rfl)
  try simp only [Act.put, List.setIfInBounds_toArray, List.set_cons_zero, List.set_cons_succ]
  refine wpAnyX_take (i := 22) (v := ?_) rfl (by kernel_rfl) (by kernel_rfl) (by kernel_rfl) (by kernel_rfl) (fun _ _ _ h => h) (Or.inl ⟨by rfl, ?_⟩) hH ?_
  rotate_left
  · intro W hS; (try dsimp only at hS); go_simp; all_goals (with_reducible rfl)
  try simp only [Act.put, List.setIfInBounds_toArray, List.set_cons_zero, List.set_cons_succ]
  refine wpAnyX_step (i := 23) (by kernel_rfl) rfl (by kernel_rfl) (fun K hK => ?_)
  go_simp
  have al : ∀ (ob : Obj) (b i : Nat), b < w3.heap.size → (w5.alloc ob).cell? ⟨b, i, none⟩ = w5.cell? ⟨b, i, none⟩ := fun ob b i hb => World.cell?_of_block (Below.heap_alloc w5 ob b (by omega))
  have hA := fun ob => And.intro ((al ob B 2 hB3).trans e0) (And.intro ((al ob gw ow hgw3).trans e1) (And.intro ((al ob g0 (o0 + k * 3) hg03).trans e2) (And.intro ((al ob g0 (o0 + k * 3 + 1) hg03).trans e3) ((al ob g0 (o0 + k * 3 + 2) hg03).trans e4))))
  refine hK.out _ _ (hA _) ?_
  clear hK K hH al
  try simp only [Act.put, List.setIfInBounds_toArray, List.set_cons_zero, List.set_cons_succ]
  refine wpAnyX_step (i := 24) (by kernel_rfl) rfl (by kernel_rfl) (fun K hK => ?_)
  refine step_ownK rfl (.tmp 25) (.tmp 39) 45 rfl 47 ic _ 3 24 Tryd.underlying45 hic hy0 hy1 hy2 rfl (by decide) base (.slice (some ⟨g0, o0, none⟩) (k + 1) c0) (k + 1) (celsL f (k + 1)) (by simp [Act.eval]) (by exact (H33.out.other (fun g _ hlt => HB5.out.block g hlt)).alloc _) ⟨w5.heap.size, 0, none⟩ 1 [.int .i64 1048576, .int .i64 1048576, .int .i64 (a2 + 2)] (by simp [Act.eval]) rfl (by exact box_at w5 [.int .i64 1048576, .int .i64 1048576, .int .i64 (a2 + 2)] 47 _ rfl) (cel_oneCell _ _ _) (by unfold maxLen; omega) (by omega) (by simp; omega) ?_
  intro g9 o9 cap9 w6 hown6 hfr6 hold6
  have hW5 : OwnR w5 base 45 1 (.slice (some ⟨gw, ow, none⟩) 1 cw) 1 [.slice (some ⟨g0, o0, none⟩) (k + 1) c0] := H23.out.other (fun g _ hlt => HB5.out.block g hlt)
  have hR5 : OwnR w5 base 3 1 (.slice (some ⟨g', o', none⟩) (k + 1) cap') (k + 1) (numV (F ++ [x])) := HR3.out.other (fun g _ hlt => HB5.out.block g hlt)
  have hC5 : OwnR w5 base 47 3 (.slice (some ⟨g0, o0, none⟩) (k + 1) c0) (k + 1) (celsL f (k + 1)) := H33.out.other (fun g _ hlt => HB5.out.block g hlt)
  have HW6 : Hid (OwnR w6 base 45 1 (.slice (some ⟨gw, ow, none⟩) 1 cw) 1 [.slice (some ⟨g0, o0, none⟩) (k + 1) c0]) := (hW5.alloc _).app (hC5.alloc _) (by decide) hfr6
  have HR6 : Hid (OwnR w6 base 3 1 (.slice (some ⟨g', o', none⟩) (k + 1) cap') (k + 1) (numV (F ++ [x]))) := (hR5.alloc _).app (hC5.alloc _) (by decide) hfr6
  have HB6 : Hid (w6.heap[B]? = some (.cells #[v1, .slice (some ⟨g', o', none⟩) (k + 1) cap', .slice (some ⟨gw, ow, none⟩) 1 cw] 50 (0, 0))) := (hfr6.other B (by simp; omega) (H33.out.tag (by decide) HU.out.here)).trans ((Below.heap_alloc _ _ _ (by omega)).trans ((HB5.out.block B hB3).trans HU.out.here))
  have HE6 : Hid (Below base w w6) := (HBE.out.trans (HB5.out.mono hlt3)).trans (((Below.refl base w5).alloc (by omega) _).trans (hfr6.below (fun g hg => (hC5.lt hg).1) (by simp; omega)))
  obtain ⟨u0, u1, u2⟩ := hold6.cel k (by omega)
  have y6 : w6.cell? ⟨B, 2, none⟩ = some (.slice (some ⟨gw, ow, none⟩) 1 cw) := cell_at HB6.out rfl
  have r6 := HW6.out.cell (j := 0) rfl
  have f6 : w6.frozen? ⟨gw, ow, none⟩ = false := HW6.out.frozen _
  simp only [Nat.add_zero] at r6
  have HO6 : Hid (OwnR w6 base 47 3 (.slice (some ⟨g9, o9, none⟩) (k + 1 + 1) cap9) (k + 1 + 1) (celsL f (k + 1) ++ [.int .i64 1048576, .int .i64 1048576, .int .i64 (a2 + 2)])) := hown6
  clear hW5 hR5 hC5 hown6 hold6 hfr6 hA e0 e1 e2 e3 e4
  rw [← HFM.out] at u0
  rw [← HFI.out] at u1
  rw [← HFD.out] at u2
  have hH := And.intro y6 (And.intro r6 (And.intro u0 (And.intro u1 u2)))
  refine hK.out _ _ hH ?_
  clear hK K
  try simp only [Act.put, List.setIfInBounds_toArray, List.set_cons_zero, List.set_cons_succ]
  refine wpAnyX_take (i := 25) (v := ?_) rfl (by kernel_rfl) (by kernel_rfl) (by kernel_rfl) (by kernel_rfl) (fun _ _ _ h => h) (Or.inl ⟨by rfl, ?_⟩) hH ?_
  rotate_left
  · intro W hS; (try dsimp only at hS); go_simp; all_goals (with_reducible rfl)
  try simp only [Act.put, List.setIfInBounds_toArray, List.set_cons_zero, List.set_cons_succ]
  refine wpAnyX_last (i := 26) (by kernel_rfl) rfl (by kernel_rfl) (by kernel_rfl) (fun K hK => ?_)
  go_simp
  refine hK.out _ _ ?_
  clear hK K hH
  try simp only [Act.put, List.setIfInBounds_toArray, List.set_cons_zero, List.set_cons_succ]
  go_end0
  have hset := HW6.out.set 0 (.slice (some ⟨g9, o9, none⟩) (k + 1 + 1) cap9) (by simp)
  simp only [Nat.add_zero, List.set_cons_zero] at hset
  refine ⟨rfl, _, _, (heap_setCell_other w6 _ B _ (Ne.symm hgB)).trans HB6.out, HR6.out.setOther _ (fun he => HW6.out.tagNe HR6.out (by decide) he), hset, ?_, HE6.out.setCell (p := ⟨gw, ow, none⟩) hgw1 _⟩
  have : celV ⟨1048576, 1048576, av (f k) 2 + 2⟩ = [.int .i64 1048576, .int .i64 1048576, .int .i64 (a2 + 2)] := by rw [← HA2.out]; rfl
  rw [this]
  exact HO6.out.setOther _ (fun he => HW6.out.tagNe HO6.out (by decide) he)
end Go.Proofs.YtilcmkiihefkkaaDoor
