import Derived.Test.YtilcmkiihefkkabGreatDoorJk20
section
set_option linter.unusedVariables false
set_option linter.unusedSimpArgs false
set_option maxRecDepth 100000
namespace Go.Proofs.YtilcmkiihefkkabGreatDoor
open Go.RowKit Go.Shelf Go.Lib
set_option maxHeartbeats 4000000 in
theorem col_any (base B k x : Nat) (f : Nat → C3) (F : List Nat) (v1 vr vw v0 : Value) (w : World) (hk : k ≤ 100000) (hx : x < 5) (hbB : base ≤ B)
    (hc : 0 ≤ (f k).m ∧ (f k).m ≤ 2000000000 ∧ 0 ≤ (f k).i ∧ (f k).i ≤ 2000000000 ∧ 0 ≤ (f k).d ∧ (f k).d ≤ 2000000000) (hav : av (f k) 2 ≤ 2000000000 ∧ 0 ≤ av (f k) 2)
    (hB : w.heap[B]? = some (.cells #[v1, vr, vw] 232 (0, 0)))
    (h1 : OwnR w base 3 1 vr k (numV F)) (h2 : OwnR w base 227 1 vw 1 [v0]) (h3 : OwnR w base 229 3 v0 (k + 1) (celsL f (k + 1))) :
    Calls Tryz.prog 96 #[.pointer (some ⟨B, 0, none⟩), .int .i64 k, .int .i64 x] w fun e w' => e = .returned (.tuple #[]) ∧ ∃ vr' v0', w'.heap[B]? = some (.cells #[v1, vr', vw] 232 (0, 0)) ∧
      OwnR w' base 3 1 vr' (k + 1) (numV (F ++ [x])) ∧ OwnR w' base 227 1 vw 1 [v0'] ∧ OwnR w' base 229 3 v0' (k + 2) (celsL f (k + 1) ++ celV ⟨1048576, 1048576, av (f k) 2 + 2⟩) ∧ Below base w w' := by
  obtain ⟨i3, hi3, hz0, hz1, hz2⟩ := info_parts Tryz.info3
  obtain ⟨ic, hic, hy0, hy1, hy2⟩ := info_parts Tryz.infoCell
  obtain ⟨ar, cr, rfl⟩ := h1.shape
  obtain ⟨gw, ow, cw, rfl, hgw1, hgw2⟩ := h2.addr (by omega)
  obtain ⟨g0, o0, c0, rfl, hg01, hg02⟩ := h3.addr (by omega)
  have hltB := lt_of_block hB
  have HB : Hid (w.heap[B]? = some (.cells #[v1, .slice ar k cr, .slice (some ⟨gw, ow, none⟩) 1 cw] 232 (0, 0))) := hB
  have H1 : Hid (OwnR w base 3 1 (.slice ar k cr) k (numV F)) := h1
  have H2 : Hid (OwnR w base 227 1 (.slice (some ⟨gw, ow, none⟩) 1 cw) 1 [.slice (some ⟨g0, o0, none⟩) (k + 1) c0]) := h2
  have H3 : Hid (OwnR w base 229 3 (.slice (some ⟨g0, o0, none⟩) (k + 1) c0) (k + 1) (celsL f (k + 1))) := h3
  have b1 : w.cell? ⟨B, 1, none⟩ = some (.slice ar k cr) := cell_at hB rfl
  have bf : w.frozen? ⟨B, 1, none⟩ = false := frozen_of_row _ _ _ _ _ hB
  have hbw : base ≤ w.heap.size := by omega
  clear hB h1 h2 h3
  go_enter Tryz.func96, Tryz.ntmps96
  go_wp2_with (at_builtin; go_must (refine wpList_own _ rfl (.tmp 10) (.tmp 12) 186 rfl 3 i3 _ 1 8 Tryz.underlying186 hi3 hz0 hz1 hz2 rfl (by decide) base (.slice ar k cr) k (numV F) rfl (by exact H1.out.alloc _) ⟨w.heap.size, 0, none⟩ 1 [.int .i64 x] rfl rfl (by exact box_at w [.int .i64 x] 3 _ rfl) (int_oneCell _ _) (by unfold maxLen; omega) (by omega) (by simp; omega) ?_; intro g' o' cap' w2 hown' hfr; have hB2 : w2.heap[B]? = some (.cells #[v1, .slice ar k cr, .slice (some ⟨gw, ow, none⟩) 1 cw] 232 (0, 0)) := (hfr.other B (by simp; omega) (H1.out.tag (by decide) HB.out)).trans ((Below.heap_alloc _ _ _ hltB).trans HB.out); have HB2 : Hid _ := hB2; have q1 := cell_at hB2 (i := 1) rfl; have qf : w2.frozen? ⟨B, 1, none⟩ = false := frozen_of_row w2 _ _ _ _ hB2; clear hB2))
  obtain ⟨w3, hw3⟩ : ∃ w3 : World, w3 = w2.setCell ⟨B, 1, none⟩ (.slice (some ⟨g', o', none⟩) (k + 1) cap') := ⟨_, rfl⟩
  have HU : Hid (Upd w2 w3 B (.cells #[v1, .slice (some ⟨g', o', none⟩) (k + 1) cap', .slice (some ⟨gw, ow, none⟩) 1 cw] 232 (0, 0))) := by rw [hw3]; exact Upd.of_setCell (i := 1) _ HB2.out
  have hE : numV F ++ [.int .i64 x] = numV (F ++ [x]) := by simp [numV]
  rw [hE] at hown'
  have ha1 := H1.out.alloc (.cells #[.int .i64 x] 3)
  have HR3 : Hid (OwnR w3 base 3 1 (.slice (some ⟨g', o', none⟩) (k + 1) cap') (k + 1) (numV (F ++ [x]))) := by rw [hw3]; exact hown'.setOther _ (hown'.tag (by decide) HB2.out)
  have h22 := (H2.out.alloc (.cells #[.int .i64 x] 3)).app ha1 (by decide) hfr
  have h32 := (H3.out.alloc (.cells #[.int .i64 x] 3)).app ha1 (by decide) hfr
  have h23 : OwnR w3 base 227 1 (.slice (some ⟨gw, ow, none⟩) 1 cw) 1 [.slice (some ⟨g0, o0, none⟩) (k + 1) c0] := by rw [hw3]; exact h22.setOther _ (h22.tag (by decide) HB2.out)
  have h33 : OwnR w3 base 229 3 (.slice (some ⟨g0, o0, none⟩) (k + 1) c0) (k + 1) (celsL f (k + 1)) := by rw [hw3]; exact h32.setOther _ (h32.tag (by decide) HB2.out)
  have HBE : Hid (Below base w w3) := by
    have a := hfr.below (base := base) (fun g hg => (H1.out.lt hg).1) (by simp; omega)
    exact ((((Below.refl base w).alloc hbw _).trans a).trans (HU.out.below hbB))
  have hlt3 : base ≤ w3.heap.size := by have := HBE.out.size; omega
  have H23 : Hid (OwnR w3 base 227 1 (.slice (some ⟨gw, ow, none⟩) 1 cw) 1 [.slice (some ⟨g0, o0, none⟩) (k + 1) c0]) := h23
  have H33 : Hid (OwnR w3 base 229 3 (.slice (some ⟨g0, o0, none⟩) (k + 1) c0) (k + 1) (celsL f (k + 1))) := h33
  have c2 : w3.cell? ⟨B, 2, none⟩ = some (.slice (some ⟨gw, ow, none⟩) 1 cw) := cell_at HU.out.here rfl
  have cw0 := h23.cell (j := 0) rfl
  obtain ⟨d0, d1, d2⟩ := h33.cel k (by omega)
  have hgw3 : gw < w3.heap.size := (h23.lt rfl).2
  have hB3 : B < w3.heap.size := lt_of_block HU.out.here
  have hg03 : g0 < w3.heap.size := (h33.lt rfl).2
  simp only [Nat.add_zero] at cw0
  have fw0 : w3.frozen? ⟨gw, ow, none⟩ = false := h23.frozen _
  have cA := fun W => ahead_any (f k) 2 (by omega) W hc
  rw [← hw3]
  obtain ⟨a2, ha2⟩ : ∃ a, a = av (f k) 2 := ⟨_, rfl⟩
  obtain ⟨n2, hn2⟩ : ∃ a, a = nx (f k) 2 := ⟨_, rfl⟩
  rw [← ha2, ← hn2] at cA
  rw [← ha2] at hav
  have HA2 : Hid (a2 = av (f k) 2) := ha2
  obtain ⟨fm, hfm⟩ : ∃ a, a = (f k).m := ⟨_, rfl⟩
  obtain ⟨fi, hfi⟩ : ∃ a, a = (f k).i := ⟨_, rfl⟩
  obtain ⟨fd, hfd⟩ : ∃ a, a = (f k).d := ⟨_, rfl⟩
  rw [← hfm] at d0 cA
  rw [← hfi] at d1 cA
  rw [← hfd] at d2 cA
  have HFM : Hid (fm = (f k).m) := hfm
  have HFI : Hid (fi = (f k).i) := hfi
  have HFD : Hid (fd = (f k).d) := hfd
  clear hw3 h22 h32 h23 h33 hfr hown' ha1 q1 qf b1 bf hc hE ha2 hn2 hfm hfi hfd
  have hkI : (k : Int) < k + 1 := by omega
  have hwr : IntKind.i64.wrap (a2 + 2) = a2 + 2 := by rw [IntKind.wrap_i64]; omega
  have fld : ∀ W, (Instr.field 234 (.agg #[.int .i64 (n2 : Nat), .int .i64 a2]) 1).run Tryz.prog W = .ok (.int .i64 a2) W := fun _ => by kernel_rfl
  have hgB : ¬ gw = B := fun he => absurd rfl (he ▸ H23.out.tag (by decide) HU.out.here)
  refine wp_region_X 26 (fun w' => w'.cell? ⟨B, 2, none⟩ = some (.slice (some ⟨gw, ow, none⟩) 1 cw) ∧ w'.cell? ⟨gw, ow, none⟩ = some (.slice (some ⟨g0, o0, none⟩) (k + 1) c0) ∧ w'.cell? ⟨g0, o0 + k * 3, none⟩ = some (.int .i64 fm) ∧ w'.cell? ⟨g0, o0 + k * 3 + 1, none⟩ = some (.int .i64 fi) ∧ w'.cell? ⟨g0, o0 + k * 3 + 2, none⟩ = some (.int .i64 fd)) (by kernel_rfl) ⟨c2, cw0, d0, d1, d2⟩ (fun hH => ?_)
  refine wpZ 0 hH ?_
  refine wpZ 1 hH ?_
  refine wpZ 2 hH ?_
  refine wpZ 3 hH ?_
  refine wpZ 4 hH ?_
  refine wpZ 5 hH ?_
  refine wpZ 6 hH ?_
  refine wpZ 7 hH ?_
  refine wpZ 8 hH ?_
  refine wpZ 9 hH ?_
  refine wpZ 10 hH ?_
  refine wpZ 11 hH ?_
  refine wpZ 12 hH ?_
  refine wpZ 13 hH ?_
  refine wpZ 14 hH ?_
  refine wpZ 15 hH ?_
  refine wpZ 16 hH ?_
  refine wpZ 17 hH ?_
  refine wpZ 18 hH ?_
  refine wpAnyX_step (i := 19) (by kernel_rfl) rfl (by kernel_rfl) (fun K hK => ?_)
  go_simp
  go_at_call 134
  refine (cA _).mono ?_
  rintro e w5 ⟨rfl, hb5⟩
  have h5 : Below w3.heap.size w3 w5 := ⟨hb5.os, hb5.tape, hb5.output, hb5.size, hb5.block⟩
  have HB5 : Hid (Below w3.heap.size w3 w5) := h5
  have hs5 := h5.size
  have e0 := (h5.cell (p := ⟨B, 2, none⟩) hB3).trans c2
  have e1 := (h5.cell (p := ⟨gw, ow, none⟩) hgw3).trans cw0
  have e2 := (h5.cell (p := ⟨g0, o0 + k * 3, none⟩) hg03).trans d0
  have e3 := (h5.cell (p := ⟨g0, o0 + k * 3 + 1, none⟩) hg03).trans d1
  have e4 := (h5.cell (p := ⟨g0, o0 + k * 3 + 2, none⟩) hg03).trans d2
  clear h5 hb5 hH
  have hH := And.intro e0 (And.intro e1 (And.intro e2 (And.intro e3 e4)))
  refine hK.out _ _ hH ?_
  clear hK K
  try simp only [Act.put, zA0, zZ0, zS0]
  refine wpZ 20 hH ?_
  refine wpZ 21 hH ?_
  refine wpZ 22 hH ?_
  refine wpAnyX_step (i := 23) (by kernel_rfl) rfl (by kernel_rfl) (fun K hK => ?_)
  go_simp
  have al : ∀ (ob : Obj) (b i : Nat), b < w3.heap.size → (w5.alloc ob).cell? ⟨b, i, none⟩ = w5.cell? ⟨b, i, none⟩ := fun ob b i hb => World.cell?_of_block (Below.heap_alloc w5 ob b (by omega))
  have hA := fun ob => And.intro ((al ob B 2 hB3).trans e0) (And.intro ((al ob gw ow hgw3).trans e1) (And.intro ((al ob g0 (o0 + k * 3) hg03).trans e2) (And.intro ((al ob g0 (o0 + k * 3 + 1) hg03).trans e3) ((al ob g0 (o0 + k * 3 + 2) hg03).trans e4))))
  refine hK.out _ _ (hA _) ?_
  clear hK K hH al
  try simp only [Act.put, zA0, zZ0, zS0]
  refine wpAnyX_step (i := 24) (by kernel_rfl) rfl (by kernel_rfl) (fun K hK => ?_)
  refine step_ownK rfl (.tmp 25) (.tmp 39) 227 rfl 229 ic _ 3 24 Tryz.underlying227 hic hy0 hy1 hy2 rfl (by decide) base (.slice (some ⟨g0, o0, none⟩) (k + 1) c0) (k + 1) (celsL f (k + 1)) (by simp [Act.eval]) (by exact (H33.out.other (fun g _ hlt => HB5.out.block g hlt)).alloc _) ⟨w5.heap.size, 0, none⟩ 1 [.int .i64 1048576, .int .i64 1048576, .int .i64 (a2 + 2)] (by simp [Act.eval]) rfl (by exact box_at w5 [.int .i64 1048576, .int .i64 1048576, .int .i64 (a2 + 2)] 229 _ rfl) (cel_oneCell _ _ _) (by unfold maxLen; omega) (by omega) (by simp; omega) ?_
  intro g9 o9 cap9 w6 hown6 hfr6 hold6
  have hW5 : OwnR w5 base 227 1 (.slice (some ⟨gw, ow, none⟩) 1 cw) 1 [.slice (some ⟨g0, o0, none⟩) (k + 1) c0] := H23.out.other (fun g _ hlt => HB5.out.block g hlt)
  have hR5 : OwnR w5 base 3 1 (.slice (some ⟨g', o', none⟩) (k + 1) cap') (k + 1) (numV (F ++ [x])) := HR3.out.other (fun g _ hlt => HB5.out.block g hlt)
  have hC5 : OwnR w5 base 229 3 (.slice (some ⟨g0, o0, none⟩) (k + 1) c0) (k + 1) (celsL f (k + 1)) := H33.out.other (fun g _ hlt => HB5.out.block g hlt)
  have HW6 : Hid (OwnR w6 base 227 1 (.slice (some ⟨gw, ow, none⟩) 1 cw) 1 [.slice (some ⟨g0, o0, none⟩) (k + 1) c0]) := (hW5.alloc _).app (hC5.alloc _) (by decide) hfr6
  have HR6 : Hid (OwnR w6 base 3 1 (.slice (some ⟨g', o', none⟩) (k + 1) cap') (k + 1) (numV (F ++ [x]))) := (hR5.alloc _).app (hC5.alloc _) (by decide) hfr6
  have HB6 : Hid (w6.heap[B]? = some (.cells #[v1, .slice (some ⟨g', o', none⟩) (k + 1) cap', .slice (some ⟨gw, ow, none⟩) 1 cw] 232 (0, 0))) := (hfr6.other B (by simp; omega) (H33.out.tag (by decide) HU.out.here)).trans ((Below.heap_alloc _ _ _ (by omega)).trans ((HB5.out.block B hB3).trans HU.out.here))
  have HE6 : Hid (Below base w w6) := (HBE.out.trans (HB5.out.mono hlt3)).trans (((Below.refl base w5).alloc (by omega) _).trans (hfr6.below (fun g hg => (hC5.lt hg).1) (by simp; omega)))
  obtain ⟨u0, u1, u2⟩ := hold6.cel k (by omega)
  have y6 : w6.cell? ⟨B, 2, none⟩ = some (.slice (some ⟨gw, ow, none⟩) 1 cw) := cell_at HB6.out rfl
  have r6 := HW6.out.cell (j := 0) rfl
  have f6 : w6.frozen? ⟨gw, ow, none⟩ = false := HW6.out.frozen _
  simp only [Nat.add_zero] at r6
  have HO6 : Hid (OwnR w6 base 229 3 (.slice (some ⟨g9, o9, none⟩) (k + 1 + 1) cap9) (k + 1 + 1) (celsL f (k + 1) ++ [.int .i64 1048576, .int .i64 1048576, .int .i64 (a2 + 2)])) := hown6
  clear hW5 hR5 hC5 hown6 hold6 hfr6 hA e0 e1 e2 e3 e4
  rw [← HFM.out] at u0
  rw [← HFI.out] at u1
  rw [← HFD.out] at u2
  have hH := And.intro y6 (And.intro r6 (And.intro u0 (And.intro u1 u2)))
  refine hK.out _ _ hH ?_
  clear hK K
  try simp only [Act.put, zA0, zZ0, zS0]
  refine wpZ 25 hH ?_
  refine wpAnyX_last (i := 26) (by kernel_rfl) rfl (by kernel_rfl) (by kernel_rfl) (fun K hK => ?_)
  go_simp
  refine hK.out _ _ ?_
  clear hK K hH
  try simp only [Act.put, zA0, zZ0, zS0]
  go_end0
  have hset := HW6.out.set 0 (.slice (some ⟨g9, o9, none⟩) (k + 1 + 1) cap9) (by simp)
  simp only [Nat.add_zero, List.set_cons_zero] at hset
  refine ⟨rfl, _, _, (heap_setCell_other w6 _ B _ (Ne.symm hgB)).trans HB6.out, HR6.out.setOther _ (fun he => HW6.out.tagNe HR6.out (by decide) he), hset, ?_, HE6.out.setCell (p := ⟨gw, ow, none⟩) hgw1 _⟩
  have : celV ⟨1048576, 1048576, av (f k) 2 + 2⟩ = [.int .i64 1048576, .int .i64 1048576, .int .i64 (a2 + 2)] := by rw [← HA2.out]; rfl
  rw [this]
  exact HO6.out.setOther _ (fun he => HW6.out.tagNe HO6.out (by decide) he)
end Go.Proofs.YtilcmkiihefkkabGreatDoor
end
section
set_option linter.unusedVariables false
set_option linter.unusedSimpArgs false
set_option maxRecDepth 100000
namespace Go.Proofs.YtilcmkiihefkkabGreatDoor
open Go.RowKit Go.Shelf Go.Lib
def prC (x y : Nat) : Int := if x = y ∧ x ≠ 4 then 0 else 4
set_option maxHeartbeats 1000000 in
theorem psame_any (x y : Nat) (w : World) : Calls Tryz.prog 136 #[.int .i64 x, .int .i64 y] w fun e w' => e = .returned (.bool (decide (x = y ∧ x ≠ 4))) ∧ w' = w := by
  go_enter Tryz.func136, Tryz.ntmps136
  by_cases h1 : x = y
  · by_cases h2 : x = 4
    · subst h1; subst h2
      go_wp2
      go_ret
      exact ⟨rfl, rfl⟩
    · have h3 : ¬ ((x : Int) = 4) := by omega
      subst h1
      go_wp2
      go_ret
      refine ⟨?_, rfl⟩
      simp [h2, h3]
  · have h3 : ¬ ((x : Int) = (y : Int)) := by omega
    go_wp2
    go_ret
    refine ⟨?_, rfl⟩
    simp [h1, h3]
set_option maxHeartbeats 1000000 in
theorem pairC_any (x y : Nat) (w : World) : Calls Tryz.prog 135 #[.int .i64 x, .int .i64 y] w fun e w' => e = .returned (.int .i64 (prC x y)) ∧ w' = w := by
  go_enter Tryz.func135, Tryz.ntmps135
  by_cases h : x = y ∧ x ≠ 4
  · have e : prC x y = 0 := by unfold prC; rw [if_pos h]
    have HD : decide (x = y ∧ x ≠ 4) = true := decide_eq_true h
    rw [e]
    have c := fun W => psame_any x y W
    rw [HD] at c
    clear HD e h
    go_wp2_with (go_at_call 136; refine (c _).mono ?_; rintro e w' ⟨rfl, rfl⟩)
    go_ret
    exact ⟨rfl, rfl⟩
  · have e : prC x y = 4 := by unfold prC; rw [if_neg h]
    have HD : decide (x = y ∧ x ≠ 4) = false := decide_eq_false h
    rw [e]
    have c := fun W => psame_any x y W
    rw [HD] at c
    clear HD e h
    go_wp2_with (go_at_call 136; refine (c _).mono ?_; rintro e w' ⟨rfl, rfl⟩)
    go_ret
    exact ⟨rfl, rfl⟩
/-- a cell's numbers are small -/
def okB (c : C3) : Prop := 0 ≤ c.m ∧ c.m ≤ 1500000000 ∧ 0 ≤ c.i ∧ c.i ≤ 1500000000 ∧ 0 ≤ c.d ∧ c.d ≤ 1500000000
theorem okB.big {c : C3} (h : okB c) : 0 ≤ c.m ∧ c.m ≤ 2000000000 ∧ 0 ≤ c.i ∧ c.i ≤ 2000000000 ∧ 0 ≤ c.d ∧ c.d ≤ 2000000000 := by
  unfold okB at h; omega
theorem okB.av {c : C3} (h : okB c) (x : Nat) : 0 ≤ av c x ∧ av c x ≤ 1500000004 := by
  unfold okB at h
  rcases x with _ | _ | x <;> simp only [YtilcmkiihefkkabGreatDoor.av, aM, aI, aD] <;> omega
/-- a row of cells that is being filled -/
def RowP (w : World) (g n : Nat) (h : Nat → C3) (j : Nat) : Prop :=
  ∃ cur : Array Value, w.heap[g]? = some (.cells cur 229 (0, 0)) ∧ cur.size = n * 3 ∧ ∀ t, t < j → cur[t * 3]? = some (.int .i64 (h t).m) ∧ cur[t * 3 + 1]? = some (.int .i64 (h t).i) ∧ cur[t * 3 + 2]? = some (.int .i64 (h t).d)
theorem RowP.any {w : World} {g n : Nat} {h : Nat → C3} {j : Nat} (hr : RowP w g n h j) (i : Nat) (hi : i < n * 3) : (∃ y, w.cell? ⟨g, i, none⟩ = some y) ∧ w.frozen? ⟨g, i, none⟩ = false := by
  obtain ⟨cur, h1, h2, _⟩ := hr
  exact ⟨⟨_, cell_at h1 (Array.getElem?_eq_getElem (by omega))⟩, frozen_of_row _ _ _ _ _ h1⟩
theorem RowP.cel {w : World} {g n : Nat} {h : Nat → C3} {j : Nat} (hr : RowP w g n h j) (t : Nat) (ht : t < j) : w.cell? ⟨g, t * 3, none⟩ = some (.int .i64 (h t).m) ∧ w.cell? ⟨g, t * 3 + 1, none⟩ = some (.int .i64 (h t).i) ∧ w.cell? ⟨g, t * 3 + 2, none⟩ = some (.int .i64 (h t).d) := by
  obtain ⟨cur, h1, h2, h3⟩ := hr
  exact ⟨cell_at h1 (h3 t ht).1, cell_at h1 (h3 t ht).2.1, cell_at h1 (h3 t ht).2.2⟩
theorem RowP.other {w w' : World} {g n : Nat} {h : Nat → C3} {j : Nat} (hr : RowP w g n h j) (he : w'.heap[g]? = w.heap[g]?) : RowP w' g n h j := by
  obtain ⟨cur, h1, h2⟩ := hr
  exact ⟨cur, he.trans h1, h2⟩
theorem RowP.set {w : World} {g n : Nat} {h : Nat → C3} {j : Nat} (hr : RowP w g n h j) (hj : j < n) (a b c : Int) (hc : h j = ⟨a, b, c⟩) :
    RowP (((w.setCell ⟨g, j * 3, none⟩ (.int .i64 a)).setCell ⟨g, j * 3 + 1, none⟩ (.int .i64 b)).setCell ⟨g, j * 3 + 2, none⟩ (.int .i64 c)) g n h (j + 1) := by
  obtain ⟨cur, h1, h2, h3⟩ := hr
  have u := ((Upd.of_setCell (i := j * 3) (.int .i64 a) h1).setCell (i := j * 3 + 1) (.int .i64 b)).setCell (i := j * 3 + 2) (.int .i64 c)
  refine ⟨_, u.here, by simpa using h2, fun t ht => ?_⟩
  by_cases he : t = j
  · subst he
    rw [hc]
    refine ⟨?_, ?_, ?_⟩
    · rw [Array.getElem?_setIfInBounds_ne (by omega), Array.getElem?_setIfInBounds_ne (by omega), Array.getElem?_setIfInBounds_self_of_lt (by omega)]
    · rw [Array.getElem?_setIfInBounds_ne (by omega), Array.getElem?_setIfInBounds_self_of_lt (by simp; omega)]
    · rw [Array.getElem?_setIfInBounds_self_of_lt (by simp; omega)]
  · obtain ⟨e1, e2, e3⟩ := h3 t (by omega)
    refine ⟨?_, ?_, ?_⟩
    · rw [Array.getElem?_setIfInBounds_ne (by omega), Array.getElem?_setIfInBounds_ne (by omega), Array.getElem?_setIfInBounds_ne (by omega)]; exact e1
    · rw [Array.getElem?_setIfInBounds_ne (by omega), Array.getElem?_setIfInBounds_ne (by omega), Array.getElem?_setIfInBounds_ne (by omega)]; exact e2
    · rw [Array.getElem?_setIfInBounds_ne (by omega), Array.getElem?_setIfInBounds_ne (by omega), Array.getElem?_setIfInBounds_ne (by omega)]; exact e3
theorem RowP.own {w : World} {g n base : Nat} {h : Nat → C3} (hr : RowP w g n h n) (hb : base ≤ g) (hn : n ≤ maxLen) : OwnR w base 229 3 (.slice (some ⟨g, 0, none⟩) n n) n (celsL h n) := by
  obtain ⟨cur, h1, h2, h3⟩ := hr
  refine ⟨celsL_length h n, Or.inr ⟨g, 0, n, cur, rfl, hb, h1, Nat.le_refl _, hn, by omega, fun j u hj => ?_⟩⟩
  have hl := celsL_length h n
  have hjl : j < n * 3 := by
    rcases Nat.lt_or_ge j (n * 3) with h | h
    · exact h
    · rw [List.getElem?_eq_none (by omega)] at hj; exact absurd hj (by simp)
  obtain ⟨g1, g2, g3⟩ := celsL_get h n (j / 3) (by omega)
  obtain ⟨e1, e2, e3⟩ := h3 (j / 3) (by omega)
  rw [Nat.zero_add]
  rcases (show j = j / 3 * 3 ∨ j = j / 3 * 3 + 1 ∨ j = j / 3 * 3 + 2 by omega) with he | he | he
  · rw [he] at hj ⊢; rw [g1] at hj; rw [← hj]; exact e1
  · rw [he] at hj ⊢; rw [g2] at hj; rw [← hj]; exact e2
  · rw [he] at hj ⊢; rw [g3] at hj; rw [← hj]; exact e3
end Go.Proofs.YtilcmkiihefkkabGreatDoor
end
section
set_option linter.unusedVariables false
set_option linter.unusedSimpArgs false
set_option maxRecDepth 100000
namespace Go.Proofs.YtilcmkiihefkkabGreatDoor
open Go.RowKit Go.Shelf Go.Lib
set_option maxHeartbeats 8000000 in
theorem row_any (base B k x m : Nat) (f h : Nat → C3) (F R : List Nat) (vr vf vw va : Value) (VS : List Value) (w : World) (hm : F.length = m) (hmb : m ≤ 600) (hk : k ≤ 300) (hbB : base ≤ B)
    (hh : h = rowS 1048576 (fun j => prC x (F.getD j 9)) f) (hcf : ∀ t, t ≤ m → okB (f t)) (hch : ∀ t, t ≤ m → okB (h t))
    (hB : w.heap[B]? = some (.cells #[vr, vf, vw] 232 (0, 0)))
    (h1 : OwnR w base 3 1 vr k (numV R)) (h2 : OwnR w base 3 1 vf m (numV F)) (h3 : OwnR w base 227 1 vw (k + 1) VS) (hV : VS[k]? = some va) (h4 : OwnR w base 229 3 va (m + 1) (celsL f (m + 1)))
    (hd : ∀ g, vr.ownBlock = some g → vf.ownBlock ≠ some g) :
    Calls Tryz.prog 97 #[.pointer (some ⟨B, 0, none⟩), .int .i64 k, .int .i64 x] w fun e w' => e = .returned (.tuple #[]) ∧ ∃ vr' vw' vn, w'.heap[B]? = some (.cells #[vr', vf, vw'] 232 (0, 0)) ∧
      OwnR w' base 3 1 vr' (k + 1) (numV (R ++ [x])) ∧ OwnR w' base 3 1 vf m (numV F) ∧ OwnR w' base 227 1 vw' (k + 2) (VS ++ [vn]) ∧ OwnR w' base 229 3 vn (m + 1) (celsL h (m + 1)) ∧
      (∀ g, vr'.ownBlock = some g → vf.ownBlock ≠ some g) ∧ (∀ v n xs, OwnR w base 229 3 v n xs → OwnR w' base 229 3 v n xs) ∧ Below base w w' := by
  obtain ⟨i3, hi3, hz0, hz1, hz2⟩ := info_parts Tryz.info3
  obtain ⟨ic, hic, hy0, hy1, hy2⟩ := info_parts Tryz.infoCell
  obtain ⟨is, his, hs0, hs1, hs2⟩ := info_parts Tryz.infoCells
  obtain ⟨ar, cr, rfl⟩ := h1.shape
  obtain ⟨af, cf, rfl⟩ := h2.shape
  obtain ⟨gw, ow, cw, rfl, hgw1, hgw2⟩ := h3.addr (by omega)
  obtain ⟨ga, oa, ca, rfl, hga1, hga2⟩ := h4.addr (by omega)
  have hltB := lt_of_block hB
  have HB : Hid (w.heap[B]? = some (.cells #[.slice ar k cr, .slice af m cf, .slice (some ⟨gw, ow, none⟩) (k + 1) cw] 232 (0, 0))) := hB
  have H1 : Hid (OwnR w base 3 1 (.slice ar k cr) k (numV R)) := h1
  have H2 : Hid (OwnR w base 3 1 (.slice af m cf) m (numV F)) := h2
  have H3 : Hid (OwnR w base 227 1 (.slice (some ⟨gw, ow, none⟩) (k + 1) cw) (k + 1) VS) := h3
  have H4 : Hid (OwnR w base 229 3 (.slice (some ⟨ga, oa, none⟩) (m + 1) ca) (m + 1) (celsL f (m + 1))) := h4
  have HV : Hid (VS[k]? = some (.slice (some ⟨ga, oa, none⟩) (m + 1) ca)) := hV
  have HD : Hid (∀ g, (Value.slice ar k cr).ownBlock = some g → (Value.slice af m cf).ownBlock ≠ some g) := hd
  have HM : Hid (F.length = m) := hm
  have HH : Hid (h = rowS 1048576 (fun j => prC x (F.getD j 9)) f) := hh
  have HCF : Hid (∀ t, t ≤ m → okB (f t)) := hcf
  have HCH : Hid (∀ t, t ≤ m → okB (h t)) := hch
  have b1 : w.cell? ⟨B, 0, none⟩ = some (.slice ar k cr) := cell_at hB rfl
  have bf : w.frozen? ⟨B, 0, none⟩ = false := frozen_of_row _ _ _ _ _ hB
  have hbw : base ≤ w.heap.size := by omega
  clear hB h1 h2 h3 h4 hV hd hm hh hcf hch
  go_enter Tryz.func97, Tryz.ntmps97
  go_upto_region 1 with (at_builtin; go_must (refine wpList_own _ rfl (.tmp 14) (.tmp 16) 186 rfl 3 i3 _ 1 8 Tryz.underlying186 hi3 hz0 hz1 hz2 rfl (by decide) base (.slice ar k cr) k (numV R) rfl (by exact H1.out.alloc _) ⟨w.heap.size, 0, none⟩ 1 [.int .i64 x] rfl rfl (by exact box_at w [.int .i64 x] 3 _ rfl) (int_oneCell _ _) (by unfold maxLen; omega) (by omega) (by simp; omega) ?_; intro g' o' cap' w2 hown' hfr; have hB2 : w2.heap[B]? = some (.cells #[.slice ar k cr, .slice af m cf, .slice (some ⟨gw, ow, none⟩) (k + 1) cw] 232 (0, 0)) := (hfr.other B (by simp; omega) (H1.out.tag (by decide) HB.out)).trans ((Below.heap_alloc _ _ _ hltB).trans HB.out); have HB2 : Hid (w2.heap[B]? = some (.cells #[.slice ar k cr, .slice af m cf, .slice (some ⟨gw, ow, none⟩) (k + 1) cw] 232 (0, 0))) := hB2; have q1 := cell_at hB2 (i := 0) rfl; have qf : w2.frozen? ⟨B, 0, none⟩ = false := frozen_of_row w2 _ _ _ _ hB2; clear hB2))
  obtain ⟨w3, hw3⟩ : ∃ w3 : World, w3 = w2.setCell ⟨B, 0, none⟩ (.slice (some ⟨g', o', none⟩) (k + 1) cap') := ⟨_, rfl⟩
  have HU : Hid (Upd w2 w3 B (.cells #[.slice (some ⟨g', o', none⟩) (k + 1) cap', .slice af m cf, .slice (some ⟨gw, ow, none⟩) (k + 1) cw] 232 (0, 0))) := by rw [hw3]; exact Upd.of_setCell (i := 0) _ HB2.out
  have hE : numV R ++ [.int .i64 x] = numV (R ++ [x]) := by simp [numV]
  rw [hE] at hown'
  have ha1 := H1.out.alloc (.cells #[.int .i64 x] 3)
  have HR3 : Hid (OwnR w3 base 3 1 (.slice (some ⟨g', o', none⟩) (k + 1) cap') (k + 1) (numV (R ++ [x]))) := by rw [hw3]; exact hown'.setOther _ (hown'.tag (by decide) HB2.out)
  have HOLD : Hid (∀ v n xs, OwnR w base 229 3 v n xs → OwnR w3 base 229 3 v n xs) := by
    intro v n xs hv
    have h := (hv.alloc (.cells #[.int .i64 x] 3)).app ha1 (by decide) hfr
    rw [hw3]; exact h.setOther _ (h.tag (by decide) HB2.out)
  have h22 := (H3.out.alloc (.cells #[.int .i64 x] 3)).app ha1 (by decide) hfr
  have H33 : Hid (OwnR w3 base 227 1 (.slice (some ⟨gw, ow, none⟩) (k + 1) cw) (k + 1) VS) := by rw [hw3]; exact h22.setOther _ (h22.tag (by decide) HB2.out)
  have H43 : Hid (OwnR w3 base 229 3 (.slice (some ⟨ga, oa, none⟩) (m + 1) ca) (m + 1) (celsL f (m + 1))) := HOLD.out _ _ _ H4.out
  have HD3 : Hid (∀ g, (Value.slice (some ⟨g', o', none⟩) (k + 1) cap').ownBlock = some g → (Value.slice af m cf).ownBlock ≠ some g) := by
    intro g hg he
    have hg2 : g' = g := by simpa [Value.ownBlock] using hg
    subst hg2
    have hl := (H2.out.lt he).2
    rcases hfr.new with h | h
    · exact HD.out g' h he
    · have : w.heap.size + 1 ≤ g' := by simpa using h
      omega
  have h2a : OwnR w2 base 3 1 (.slice af m cf) m (numV F) := (H2.out.alloc (.cells #[.int .i64 x] 3)).other (fun g hg hlt => hfr.other g hlt (fun he => HD.out g he hg))
  have H23 : Hid (OwnR w3 base 3 1 (.slice af m cf) m (numV F)) := by rw [hw3]; exact h2a.setOther _ (h2a.tag (by decide) HB2.out)
  have HBE : Hid (Below base w w3) := by
    have a := hfr.below (base := base) (fun g hg => (H1.out.lt hg).1) (by simp; omega)
    exact ((((Below.refl base w).alloc hbw _).trans a).trans (HU.out.below hbB))
  have hlt3 : base ≤ w3.heap.size := by have := HBE.out.size; omega
  have c1 : w3.cell? ⟨B, 1, none⟩ = some (.slice af m cf) := cell_at HU.out.here rfl
  have c2 : w3.cell? ⟨B, 2, none⟩ = some (.slice (some ⟨gw, ow, none⟩) (k + 1) cw) := cell_at HU.out.here rfl
  have cwk := H33.out.cell HV.out
  have hgw3 : gw < w3.heap.size := (H33.out.lt rfl).2
  have hB3 : B < w3.heap.size := lt_of_block HU.out.here
  have hga3 : ga < w3.heap.size := (H43.out.lt rfl).2
  obtain ⟨f0, hf0⟩ : ∃ c, c = f 0 := ⟨_, rfl⟩
  have hok0 := HCF.out 0 (by omega)
  obtain ⟨d0, d1, d2⟩ := H43.out.cel 0 (by omega)
  rw [← hf0] at d0 d1 d2 hok0
  simp only [Nat.zero_mul, Nat.add_zero] at d0 d1 d2
  have cA := fun W => ahead_any f0 1 (by omega) W hok0.big
  have hav := hok0.av 1
  obtain ⟨a1, ha1'⟩ : ∃ a, a = av f0 1 := ⟨_, rfl⟩
  obtain ⟨n1, hn1⟩ : ∃ a, a = nx f0 1 := ⟨_, rfl⟩
  rw [← ha1', ← hn1] at cA
  rw [← ha1'] at hav
  have HA1 : Hid (a1 = av (f 0) 1) := by rw [ha1', hf0]; exact rfl
  obtain ⟨fm, fi, fd⟩ := f0
  simp only at d0 d1 d2 cA
  rw [← hw3]
  have fld : ∀ W, (Instr.field 234 (.agg #[.int .i64 (n1 : Nat), .int .i64 a1]) 1).run Tryz.prog W = .ok (.int .i64 a1) W := fun _ => by kernel_rfl
  obtain ⟨Z, hZ, hmk⟩ : ∃ Z : Array Value, Z.size = (m + 1) * 3 ∧ ∀ W : World, (Instr.makeSlice 227 (.int .i64 ((m : Int) + 1)) (.int .i64 ((m : Int) + 1))).run Tryz.prog W = .ok (.slice (some ⟨W.heap.size, 0, none⟩) (m + 1) (m + 1)) (W.alloc (.cells Z 229)) := by
    refine ⟨madeCells (Value.agg #[.int .i64 0, .int .i64 0, .int .i64 0]).cells ((m + 1) * 3), by rw [size_madeCells], fun W => ?_⟩
    have e : (m : Int) + 1 = ((m + 1 : Nat) : Int) := by omega
    rw [e]
    have := run_make (P := Tryz.prog) W 227 229 ic _ Tryz.underlying227 hic hy0 .i64 .i64 ((m + 1 : Nat) : Int) ((m + 1 : Nat) : Int) (by omega) (by omega) (by rw [hy2]; omega) (by omega)
    rw [hy1] at this
    simpa using this
  have al : ∀ (ob : Obj) (b i : Nat), b < w3.heap.size → (w3.alloc ob).cell? ⟨b, i, none⟩ = w3.cell? ⟨b, i, none⟩ := fun ob b i hb => World.cell?_of_block (Below.heap_alloc w3 ob b hb)
  have al0 : ∀ ob, (w3.alloc ob).cell? ⟨ga, oa, none⟩ = some (.int .i64 fm) := fun ob => (al ob ga oa hga3).trans d0
  have al1 : ∀ ob, (w3.alloc ob).cell? ⟨ga, oa + 1, none⟩ = some (.int .i64 fi) := fun ob => (al ob ga (oa + 1) hga3).trans d1
  have al2 : ∀ ob, (w3.alloc ob).cell? ⟨ga, oa + 2, none⟩ = some (.int .i64 fd) := fun ob => (al ob ga (oa + 2) hga3).trans d2
  have HRN : Hid (∀ w5, Below (w3.alloc (.cells Z 229)).heap.size (w3.alloc (.cells Z 229)) w5 → RowP w5 w3.heap.size (m + 1) h 0 ∧ Below w3.heap.size w3 w5) := by
    intro w5 hb5
    refine ⟨⟨Z, (hb5.block _ (by simp)).trans (heap_alloc_new w3 _), hZ, fun t ht => absurd ht (by omega)⟩, ?_⟩
    exact ((Below.refl _ w3).alloc (Nat.le_refl _) _).trans (hb5.mono (by simp))
  clear hw3 h22 h2a hfr hown' ha1 q1 qf b1 bf hE ha1' hn1 hf0 al hok0 d0 d1 d2
  have hkI : (k : Int) < k + 1 := by omega
  have hmI : (0 : Int) < (m : Int) + 1 := by omega
  have hwr : IntKind.i64.wrap (a1 + 2) = a1 + 2 := by rw [IntKind.wrap_i64]; omega
  go_upto_region 4 with (go_at_call 134; refine (cA _).mono ?_; rintro e w5 ⟨rfl, hb5⟩; obtain ⟨hrow5, hbe5⟩ := HRN.out w5 hb5; have HROW : Hid (RowP w5 w3.heap.size (m + 1) h 0) := hrow5; have HBE5 : Hid (Below w3.heap.size w3 w5) := hbe5; obtain ⟨⟨y0, r0⟩, z0⟩ := hrow5.any 0 (by omega); obtain ⟨⟨y1, r1⟩, z1⟩ := hrow5.any 1 (by omega); obtain ⟨⟨y2, r2⟩, z2⟩ := hrow5.any 2 (by omega); clear hrow5 hbe5 hb5)
  obtain ⟨gr, hgr⟩ : ∃ gr, gr = w3.heap.size := ⟨_, rfl⟩
  rw [← hgr] at HROW HBE5 hgw3 hB3 hga3 ⊢
  obtain ⟨w6, hw6⟩ : ∃ w6 : World, w6 = (((w5.setCell ⟨gr, 0, none⟩ (.int .i64 1048576)).setCell ⟨gr, 1, none⟩ (.int .i64 (a1 + 2))).setCell ⟨gr, 2, none⟩ (.int .i64 1048576)) := ⟨_, rfl⟩
  have HR6 : Hid (RowP w6 gr (m + 1) h 1) := by
    have e : h 0 = ⟨1048576, a1 + 2, 1048576⟩ := by rw [HH.out, HA1.out]; rfl
    have r := HROW.out.set (by omega) 1048576 (a1 + 2) 1048576 e
    simp only [Nat.zero_mul, Nat.zero_add] at r
    rw [hw6]; exact r
  have HB6 : Hid (Below gr w3 w6) := by
    rw [hw6]
    exact ((HBE5.out.setCell (p := ⟨gr, 0, none⟩) (Nat.le_refl _) _).setCell (p := ⟨gr, 1, none⟩) (Nat.le_refl _) _).setCell (p := ⟨gr, 2, none⟩) (Nat.le_refl _) _
  have k1 : w6.cell? ⟨B, 1, none⟩ = some (.slice af m cf) := (HB6.out.cell (p := ⟨B, 1, none⟩) hB3).trans c1
  have HGR : Hid (gr = w3.heap.size) := hgr
  have HUH : Hid (w3.heap[B]? = some (.cells #[.slice (some ⟨g', o', none⟩) (k + 1) cap', .slice af m cf, .slice (some ⟨gw, ow, none⟩) (k + 1) cw] 232 (0, 0))) := HU.out.here
  have hbg : base ≤ gr := by omega
  rw [← hw6]
  clear hw6 hgr HROW HBE5 y0 r0 z0 y1 r1 z1 y2 r2 z2 hmk HRN al0 al1 al2 cA fld cwk hwr HA1 hav HU
  go_wp2_with fail
  go_loopw [44] (fun iv wx => ∃ j : Nat, j ≤ m ∧ iv = .int .i64 j ∧ RowP wx gr (m + 1) h (j + 1) ∧ Below gr w3 wx) (fun iv _ => m - (RowKit.intOf iv).toNat)
  case atStart => exact ⟨0, Nat.zero_le _, rfl, HR6.out, HB6.out⟩
  case round =>
    clear HR6 HB6 k1
    obtain ⟨j, hj, rfl, hrow, hbel⟩ := hrel
    by_cases hlt : j < m
    · obtain ⟨gf, of, cf', hvf, hgf1, hgf2⟩ := H23.out.addr (by omega)
      rw [← HGR.out] at hgf2
      have hFj : (numV F)[j]? = some (.int .i64 (F.getD j 9 : Nat)) := by
        have : j < F.length := by rw [HM.out]; exact hlt
        simp [numV, this]
      have hvf2 : af = some ⟨gf, of, none⟩ ∧ cf = cf' := by simpa using hvf
      obtain ⟨rfl, rfl⟩ := hvf2
      have cj := H23.out.cell hFj
      obtain ⟨y, hy⟩ : ∃ y, y = F.getD j 9 := ⟨_, rfl⟩
      rw [← hy] at cj
      have HY : Hid (y = F.getD j 9) := hy
      obtain ⟨p0, p1, p2⟩ := H43.out.cel j (by omega)
      obtain ⟨q0, q1, q2⟩ := H43.out.cel (j + 1) (by omega)
      obtain ⟨s0, s1, s2⟩ := hrow.cel j (by omega)
      have okp := HCF.out j (by omega)
      have okq := HCF.out (j + 1) (by omega)
      have oks := HCH.out j (by omega)
      obtain ⟨fp, hfp⟩ : ∃ c, c = f j := ⟨_, rfl⟩
      obtain ⟨fq, hfq⟩ : ∃ c, c = f (j + 1) := ⟨_, rfl⟩
      obtain ⟨fs, hfs⟩ : ∃ c, c = h j := ⟨_, rfl⟩
      rw [← hfp] at p0 p1 p2 okp
      rw [← hfq] at q0 q1 q2 okq
      rw [← hfs] at s0 s1 s2 oks
      have HFP : Hid (fp = f j) := hfp
      have HFQ : Hid (fq = f (j + 1)) := hfq
      have HFS : Hid (fs = h j) := hfs
      rw [← hbel.cell (p := ⟨ga, oa + j * 3, none⟩) hga3] at p0
      rw [← hbel.cell (p := ⟨ga, oa + j * 3 + 1, none⟩) hga3] at p1
      rw [← hbel.cell (p := ⟨ga, oa + j * 3 + 2, none⟩) hga3] at p2
      rw [← hbel.cell (p := ⟨ga, oa + (j + 1) * 3, none⟩) hga3] at q0
      rw [← hbel.cell (p := ⟨ga, oa + (j + 1) * 3 + 1, none⟩) hga3] at q1
      rw [← hbel.cell (p := ⟨ga, oa + (j + 1) * 3 + 2, none⟩) hga3] at q2
      rw [← hbel.cell (p := ⟨gf, of + j, none⟩) hgf2] at cj
      obtain ⟨⟨t0, u0⟩, z0⟩ := hrow.any ((j + 1) * 3) (by omega)
      obtain ⟨⟨t1, u1⟩, z1⟩ := hrow.any ((j + 1) * 3 + 1) (by omega)
      obtain ⟨⟨t2, u2⟩, z2⟩ := hrow.any ((j + 1) * 3 + 2) (by omega)
      have HROW : Hid (RowP wr gr (m + 1) h (j + 1)) := hrow
      have HBEL : Hid (Below gr w3 wr) := hbel
      have hsz := hbel.size
      have hgrl : gr < wr.heap.size := by
        obtain ⟨cur, hc, _⟩ := hrow
        exact lt_of_block hc
      have hjI : (j : Int) < m := by omega
      have hjI2 : (j : Int) < (m : Int) + 1 := by omega
      have hjI3 : (j : Int) + 1 < (m : Int) + 1 := by omega
      have hjn : ((j : Int) + 1).toNat = j + 1 := by omega
      have hj0 : (0 : Int) ≤ (j : Int) + 1 := by omega
      have hjw : IntKind.i64.wrap ((j : Int) + 1) = (j : Int) + 1 := by rw [IntKind.wrap_i64]; omega
      have HRO : Hid (∀ W, Below wr.heap.size wr W → RowP W gr (m + 1) h (j + 1)) := fun W hb => hrow.other (hb.block gr hgrl)
      have cP := fun W => ahead_any fp 0 (by omega) W okp.big
      have cQ := fun W => ahead_any fq 1 (by omega) W okq.big
      have cS := fun W => ahead_any fs 2 (by omega) W oks.big
      have bP := okp.av 0
      have bQ := okq.av 1
      have bS := oks.av 2
      have cC := fun W => pairC_any x y W
      have bC : 0 ≤ prC x y ∧ prC x y ≤ 4 := by unfold prC; split <;> omega
      obtain ⟨aP, haP⟩ : ∃ a, a = av fp 0 := ⟨_, rfl⟩
      obtain ⟨aQ, haQ⟩ : ∃ a, a = av fq 1 := ⟨_, rfl⟩
      obtain ⟨aS, haS⟩ : ∃ a, a = av fs 2 := ⟨_, rfl⟩
      obtain ⟨nP, hnP⟩ : ∃ a, a = nx fp 0 := ⟨_, rfl⟩
      obtain ⟨nQ, hnQ⟩ : ∃ a, a = nx fq 1 := ⟨_, rfl⟩
      obtain ⟨nS, hnS⟩ : ∃ a, a = nx fs 2 := ⟨_, rfl⟩
      obtain ⟨pc, hpc⟩ : ∃ a, a = prC x y := ⟨_, rfl⟩
      rw [← haP, ← hnP] at cP
      rw [← haQ, ← hnQ] at cQ
      rw [← haS, ← hnS] at cS
      rw [← hpc] at cC bC
      rw [← haP] at bP
      rw [← haQ] at bQ
      rw [← haS] at bS
      have HHJ : Hid (h (j + 1) = ⟨aP + pc, aQ + 2, aS + 2⟩) := by
        show h (j + 1) = ⟨aP + pc, aQ + 2, aS + 2⟩
        rw [haP, haQ, haS, hpc, HFP.out, HFQ.out, HFS.out, HH.out, HY.out]
        rfl
      have fP : ∀ W, (Instr.field 234 (.agg #[.int .i64 (nP : Nat), .int .i64 aP]) 1).run Tryz.prog W = .ok (.int .i64 aP) W := fun _ => by kernel_rfl
      have fQ : ∀ W, (Instr.field 234 (.agg #[.int .i64 (nQ : Nat), .int .i64 aQ]) 1).run Tryz.prog W = .ok (.int .i64 aQ) W := fun _ => by kernel_rfl
      have fS : ∀ W, (Instr.field 234 (.agg #[.int .i64 (nS : Nat), .int .i64 aS]) 1).run Tryz.prog W = .ok (.int .i64 aS) W := fun _ => by kernel_rfl
      have w1 : IntKind.i64.wrap (aP + pc) = aP + pc := by rw [IntKind.wrap_i64]; omega
      have w2 : IntKind.i64.wrap (aQ + 2) = aQ + 2 := by rw [IntKind.wrap_i64]; omega
      have w4 : IntKind.i64.wrap (aS + 2) = aS + 2 := by rw [IntKind.wrap_i64]; omega
      clear hy hfp hfq hfs hrow hbel hFj hvf haP haQ haS hnP hnQ hnS hpc okp okq oks
      obtain ⟨pm, pi, pd⟩ := fp
      obtain ⟨qm, qi, qd⟩ := fq
      obtain ⟨sm, si, sd⟩ := fs
      simp only at p0 p1 p2 q0 q1 q2 s0 s1 s2 cP cQ cS
      go_wp2_with fail
      refine wp_region_X 30 (fun W => W.cell? ⟨ga, oa + j * 3, none⟩ = some (.int .i64 pm) ∧ W.cell? ⟨ga, oa + j * 3 + 1, none⟩ = some (.int .i64 pi) ∧ W.cell? ⟨ga, oa + j * 3 + 2, none⟩ = some (.int .i64 pd) ∧ W.cell? ⟨ga, oa + (j + 1) * 3, none⟩ = some (.int .i64 qm) ∧ W.cell? ⟨ga, oa + (j + 1) * 3 + 1, none⟩ = some (.int .i64 qi) ∧ W.cell? ⟨ga, oa + (j + 1) * 3 + 2, none⟩ = some (.int .i64 qd) ∧ W.cell? ⟨gr, j * 3, none⟩ = some (.int .i64 sm) ∧ W.cell? ⟨gr, j * 3 + 1, none⟩ = some (.int .i64 si) ∧ W.cell? ⟨gr, j * 3 + 2, none⟩ = some (.int .i64 sd)) (by kernel_rfl) ⟨p0, p1, p2, q0, q1, q2, s0, s1, s2⟩ (fun hH => ?_)
      refine wpZ 0 hH ?_
      refine wpZ 1 hH ?_
      refine wpZ 2 hH ?_
      refine wpZ 3 hH ?_
      refine wpZ 4 hH ?_
      refine wpZ 5 hH ?_
      refine wpZ 6 hH ?_
      refine wpZ 9 hH ?_
      refine wpZ 10 hH ?_
      refine wpZ 13 hH ?_
      refine wpZ 14 hH ?_
      refine wpZ 15 hH ?_
      refine wpZ 16 hH ?_
      refine wpZ 17 hH ?_
      refine wpZ 21 hH ?_
      refine wpZ 22 hH ?_
      refine wpZ 23 hH ?_
      refine wpZ 24 hH ?_
      have hga4 : ga < wr.heap.size := by omega
      have HS : Hid (∀ W, Below wr.heap.size wr W → W.cell? ⟨ga, oa + j * 3, none⟩ = some (.int .i64 pm) ∧ W.cell? ⟨ga, oa + j * 3 + 1, none⟩ = some (.int .i64 pi) ∧ W.cell? ⟨ga, oa + j * 3 + 2, none⟩ = some (.int .i64 pd) ∧ W.cell? ⟨ga, oa + (j + 1) * 3, none⟩ = some (.int .i64 qm) ∧ W.cell? ⟨ga, oa + (j + 1) * 3 + 1, none⟩ = some (.int .i64 qi) ∧ W.cell? ⟨ga, oa + (j + 1) * 3 + 2, none⟩ = some (.int .i64 qd) ∧ W.cell? ⟨gr, j * 3, none⟩ = some (.int .i64 sm) ∧ W.cell? ⟨gr, j * 3 + 1, none⟩ = some (.int .i64 si) ∧ W.cell? ⟨gr, j * 3 + 2, none⟩ = some (.int .i64 sd)) := fun W hb => ⟨(hb.cell (p := ⟨ga, oa + j * 3, none⟩) hga4).trans p0, (hb.cell (p := ⟨ga, oa + j * 3 + 1, none⟩) hga4).trans p1, (hb.cell (p := ⟨ga, oa + j * 3 + 2, none⟩) hga4).trans p2, (hb.cell (p := ⟨ga, oa + (j + 1) * 3, none⟩) hga4).trans q0, (hb.cell (p := ⟨ga, oa + (j + 1) * 3 + 1, none⟩) hga4).trans q1, (hb.cell (p := ⟨ga, oa + (j + 1) * 3 + 2, none⟩) hga4).trans q2, (hb.cell (p := ⟨gr, j * 3, none⟩) hgrl).trans s0, (hb.cell (p := ⟨gr, j * 3 + 1, none⟩) hgrl).trans s1, (hb.cell (p := ⟨gr, j * 3 + 2, none⟩) hgrl).trans s2⟩
      clear p0 p1 p2 q0 q1 q2 s0 s1 s2 u0 u1 u2 z0 z1 z2
      refine wpAnyX_step (i := 7) (by kernel_rfl) rfl (by kernel_rfl) (fun K hK => ?_)
      go_simp
      go_at_call 134
      refine (cP _).mono ?_
      rintro e w7 ⟨rfl, hb7⟩
      have B7 : Below wr.heap.size wr w7 := ⟨hb7.os, hb7.tape, hb7.output, hb7.size, hb7.block⟩
      clear hH hb7
      have hH := HS.out w7 B7
      refine hK.out _ _ hH ?_
      clear hK K
      try simp only [Act.put, zA0, zZ0, zS0]
      refine wpZ 8 hH ?_
      refine wpAnyX_step (i := 11) (by kernel_rfl) rfl (by kernel_rfl) (fun K hK => ?_)
      go_simp
      go_at_call 135
      refine (cC _).mono ?_
      rintro e w8 ⟨rfl, rfl⟩
      refine hK.out _ _ hH ?_
      clear hK K
      try simp only [Act.put, zA0, zZ0, zS0]
      refine wpZ 12 hH ?_
      refine wpAnyX_step (i := 18) (by kernel_rfl) rfl (by kernel_rfl) (fun K hK => ?_)
      go_simp
      go_at_call 134
      refine (cQ _).mono ?_
      rintro e w9 ⟨rfl, hb9⟩
      have B9 : Below wr.heap.size wr w9 := B7.trans (hb9.mono B7.size)
      clear hH hb9
      have hH := HS.out w9 B9
      refine hK.out _ _ hH ?_
      clear hK K
      try simp only [Act.put, zA0, zZ0, zS0]
      refine wpZ 19 hH ?_
      refine wpZ 20 hH ?_
      refine wpAnyX_step (i := 25) (by kernel_rfl) rfl (by kernel_rfl) (fun K hK => ?_)
      go_simp
      go_at_call 134
      refine (cS _).mono ?_
      rintro e wA ⟨rfl, hbA⟩
      have BA : Below wr.heap.size wr wA := B9.trans (hbA.mono B9.size)
      clear hH hbA
      have hH := HS.out wA BA
      refine hK.out _ _ hH ?_
      clear hK K
      try simp only [Act.put, zA0, zZ0, zS0]
      refine wpZ 26 hH ?_
      refine wpZ 27 hH ?_
      refine wpZ 28 hH ?_
      refine wpZ 29 hH ?_
      have hrA := HRO.out wA BA
      obtain ⟨⟨t0, u0⟩, z0⟩ := hrA.any ((j + 1) * 3) (by omega)
      obtain ⟨⟨t1, u1⟩, z1⟩ := hrA.any ((j + 1) * 3 + 1) (by omega)
      obtain ⟨⟨t2, u2⟩, z2⟩ := hrA.any ((j + 1) * 3 + 2) (by omega)
      have HRA : Hid (RowP wA gr (m + 1) h (j + 1)) := hrA
      have HBA : Hid (Below gr w3 wA) := HBEL.out.trans (BA.mono (by omega))
      clear hrA BA B9 B7 hH
      refine wpAnyX_last (i := 30) (by kernel_rfl) rfl (by kernel_rfl) (by kernel_rfl) (fun K hK => ?_)
      go_simp
      refine hK.out _ _ ?_
      clear hK K
      try simp only [Act.put, zA0, zZ0, zS0]
      go_wp2_with fail
      go_roundw
      case rel =>
        refine ⟨j + 1, by omega, by go_num, ?_, ?_⟩
        · exact HRA.out.set (by omega) _ _ _ HHJ.out
        · exact ((HBA.out.setCell (p := ⟨gr, (j + 1) * 3, none⟩) (Nat.le_refl _) _).setCell (p := ⟨gr, (j + 1) * 3 + 1, none⟩) (Nat.le_refl _) _).setCell (p := ⟨gr, (j + 1) * 3 + 2, none⟩) (Nat.le_refl _) _
      case measure => simp [RowKit.intOf]; omega
    · have hje : j = m := by omega
      subst hje
      have hVN := hrow.own (base := base) hbg (by unfold maxLen; omega)
      have hsz := hbel.size
      have hw3 : ∀ g, g < w3.heap.size → wr.heap[g]? = w3.heap[g]? := fun g hg => hbel.block g (by rw [HGR.out]; exact hg)
      have hR := HR3.out.other (w' := wr) (fun g _ hlt => hw3 g hlt)
      have hF := H23.out.other (w' := wr) (fun g _ hlt => hw3 g hlt)
      have hW := H33.out.other (w' := wr) (fun g _ hlt => hw3 g hlt)
      have HR : Hid (OwnR wr base 3 1 (.slice (some ⟨g', o', none⟩) (k + 1) cap') (k + 1) (numV (R ++ [x]))) := hR
      have HF : Hid (OwnR wr base 3 1 (.slice af j cf) j (numV F)) := hF
      have HW : Hid (OwnR wr base 227 1 (.slice (some ⟨gw, ow, none⟩) (k + 1) cw) (k + 1) VS) := hW
      have HVN : Hid (OwnR wr base 229 3 (.slice (some ⟨gr, 0, none⟩) (j + 1) (j + 1)) (j + 1) (celsL h (j + 1))) := hVN
      have HOL : Hid (∀ v n xs, OwnR w base 229 3 v n xs → OwnR wr base 229 3 v n xs) := fun v n xs hv => (HOLD.out v n xs hv).other (fun g _ hlt => hw3 g hlt)
      have HBX : Hid (Below base w wr) := HBE.out.trans (hbel.mono hbg)
      have HBR : Hid (wr.heap[B]? = some (.cells #[.slice (some ⟨g', o', none⟩) (k + 1) cap', .slice af j cf, .slice (some ⟨gw, ow, none⟩) (k + 1) cw] 232 (0, 0))) := (hbel.block B hB3).trans HUH.out
      have x2 : wr.cell? ⟨B, 2, none⟩ = some (.slice (some ⟨gw, ow, none⟩) (k + 1) cw) := cell_at HBR.out rfl
      have hBr : B < wr.heap.size := by rw [HGR.out] at hB3; omega
      have hbr : base ≤ wr.heap.size := by omega
      clear hVN hw3 hR hF hW hrow hbel
      go_wp2_with (at_builtin; go_must (refine wpList_own _ rfl (.tmp 84) (.tmp 86) 230 rfl 227 is _ 1 24 Tryz.underlying230 his hs0 hs1 hs2 rfl (by decide) base (.slice (some ⟨gw, ow, none⟩) (k + 1) cw) (k + 1) VS rfl (by exact HW.out.alloc _) ⟨wr.heap.size, 0, none⟩ 1 [.slice (some ⟨gr, 0, none⟩) (j + 1) (j + 1)] rfl rfl (by exact box_at wr [.slice (some ⟨gr, 0, none⟩) (j + 1) (j + 1)] 227 _ rfl) (by intro u hu; simp only [List.mem_cons, List.not_mem_nil, or_false] at hu; subst hu; rfl) (by unfold maxLen; omega) (by omega) (by simp; omega) ?_; intro g9 o9 cap9 w8 hown8 hfr8; have hB8 : w8.heap[B]? = some (.cells #[.slice (some ⟨g', o', none⟩) (k + 1) cap', .slice af j cf, .slice (some ⟨gw, ow, none⟩) (k + 1) cw] 232 (0, 0)) := (hfr8.other B (by simp; omega) (HW.out.tag (by decide) HBR.out)).trans ((Below.heap_alloc _ _ _ hBr).trans HBR.out); have HB8 : Hid (w8.heap[B]? = some (.cells #[.slice (some ⟨g', o', none⟩) (k + 1) cap', .slice af j cf, .slice (some ⟨gw, ow, none⟩) (k + 1) cw] 232 (0, 0))) := hB8; have q1 := cell_at hB8 (i := 2) rfl; have qf : w8.frozen? ⟨B, 2, none⟩ = false := frozen_of_row w8 _ _ _ _ hB8; clear hB8))
      go_end0
      have hu := Upd.of_setCell (i := 2) (.slice (some ⟨g9, o9, none⟩) (k + 1 + 1) cap9) HB8.out
      have hWa := HW.out.alloc (.cells #[.slice (some ⟨gr, 0, none⟩) (j + 1) (j + 1)] 227)
      have fr : ∀ {e : TypeId} {size : Nat} {v : Value} {n : Nat} {xs : List Value}, e ≠ 227 → e ≠ 232 → OwnR wr base e size v n xs → OwnR (w8.setCell ⟨B, 2, none⟩ (.slice (some ⟨g9, o9, none⟩) (k + 1 + 1) cap9)) base e size v n xs := by
        intro e size v n xs he1 he2 hv
        have hv8 := (hv.alloc (.cells #[.slice (some ⟨gr, 0, none⟩) (j + 1) (j + 1)] 227)).app hWa he1 hfr8
        exact hv8.setOther _ (hv8.tag (Ne.symm he2) HB8.out)
      refine ⟨rfl, _, _, _, hu.here, fr (by decide) (by decide) HR.out, fr (by decide) (by decide) HF.out, hown8.setOther _ (hown8.tag (by decide) HB8.out), fr (by decide) (by decide) HVN.out, HD3.out, fun v n xs hv => fr (by decide) (by decide) (HOL.out v n xs hv), ?_⟩
      exact (HBX.out.trans (((Below.refl base wr).alloc hbr _).trans (hfr8.below (fun g hg => (HW.out.lt hg).1) (by simp; omega)))).trans (hu.below hbB)
end Go.Proofs.YtilcmkiihefkkabGreatDoor
end
