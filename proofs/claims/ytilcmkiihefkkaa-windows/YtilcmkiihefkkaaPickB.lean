import Derived.Test.YtilcmkiihefkkaaAdd
set_option linter.unusedVariables false
set_option linter.unusedSimpArgs false
set_option maxRecDepth 100000
namespace Go.Proofs.Ytilcmkiihefkkaa
open Go.RowKit

/-- the end of 'pick': what the append and the store have left -/
theorem pick_end {w wr W w2 : World} {base Bk g' o' cap' n s nq : Nat} {k Wi next run : Int} {x : W3} {ov0 pv ov : Value} {L : List W3}
    (hltB : Bk < w.heap.size) (hov : ∀ j, pv.ownBlock = some j → ov0.ownBlock = some j)
    (hu : Upd (w.alloc (.cells #[.int .i64 x.h, .int .i64 x.p, .bool x.b] 50)) wr Bk (.cells #[.int .i64 k, .int .i64 Wi, .int .i64 next, .int .i64 run, ov, pv] 103 (0, 0)))
    (hW : W = (wr.drewN nq).alloc (.cells #[.int .i64 x.h, .int .i64 x.p, .bool x.b] 50)) (hs : s = n + 1)
    (hB2 : w2.heap[Bk]? = some (.cells #[.int .i64 k, .int .i64 Wi, .int .i64 next, .int .i64 run, ov, pv] 103 (0, 0)))
    (hown : OwnR w2 base 50 3 (.slice (some ⟨g', o', none⟩) s cap') s (wcells L ++ [.int .i64 x.h, .int .i64 x.p, .bool x.b])) (hfr : AppFr W w2 pv g') :
    ∃ pv', OwnR (w2.setCell ⟨Bk, 5, none⟩ (.slice (some ⟨g', o', none⟩) s cap')) base 50 3 pv' (L ++ [x]).length (wcells (L ++ [x])) ∧
      (w2.setCell ⟨Bk, 5, none⟩ (.slice (some ⟨g', o', none⟩) s cap')).heap[Bk]? = some (.cells #[.int .i64 k, .int .i64 Wi, .int .i64 next, .int .i64 run, ov, pv'] 103 (0, 0)) ∧
      PFr w (w2.setCell ⟨Bk, 5, none⟩ (.slice (some ⟨g', o', none⟩) s cap')) ov0 pv' Bk := by
  subst hW
  have hlen : s = (L ++ [x]).length := by
    have := hown.1
    rw [List.length_append, wcells_length] at this
    simp at this ⊢
    omega
  have hU := Upd.of_setCell (i := 5) (.slice (some ⟨g', o', none⟩) s cap') hB2
  have hne : (Value.slice (some ⟨g', o', none⟩) s cap').ownBlock ≠ some Bk := hown.tag (by decide) hB2
  have hsz : wr.heap.size = w.heap.size + 1 := by rw [hu.size]; simp
  have hfs := hfr.size
  simp at hfs
  refine ⟨.slice (some ⟨g', o', none⟩) s cap', ?_, hU.here, ⟨?_, ?_, ?_, ?_, ?_, ?_⟩⟩
  · rw [← hlen, wcells_append]
    exact hown.other (fun g hg _ => hU.other g (fun e => hne (by rw [hg, e])))
  · exact hU.os.trans (hfr.os.trans hu.os)
  · exact hU.tape.trans (hfr.tape.trans hu.tape)
  · exact hU.output.trans (hfr.output.trans hu.output)
  · rw [hU.size]
    have : (wr.drewN nq).heap.size = wr.heap.size := rfl
    omega
  · intro j hj hjB hjo
    rw [hU.other j hjB, hfr.other j (by simp; omega) (fun e => hjo (hov j e)), Below.heap_alloc _ _ _ (by show j < wr.heap.size; omega)]
    show wr.heap[j]? = _
    rw [hu.other j hjB, Below.heap_alloc _ _ _ hj]
  · intro g hg
    simp only [Value.ownBlock, Option.some.injEq] at hg
    subst hg
    rcases hfr.new with h | h
    · exact Or.inl (hov _ h)
    · right
      have : wr.heap.size + 1 ≤ g' := by simpa using h
      omega

/-- is a word picked anew? -/
def Anew (M : List W3) (p : Int) : Prop := M = [] ∨ ∃ y, M.getLast? = some y ∧ y.p ≠ p

set_option maxHeartbeats 1000000 in
set_option maxRecDepth 100000 in
/-- nothing was picked yet -/
theorem pick_nil (k W next run : Int) (x : W3) (base Bk : Nat) (ov : Value) (ao : Option Addr) (cap : Nat) (w : World)
    (hB : w.heap[Bk]? = some (.cells #[.int .i64 k, .int .i64 W, .int .i64 next, .int .i64 run, ov, .slice ao 0 cap] 103 (0, 0)))
    (hown : OwnR w base 50 3 (.slice ao 0 cap) 0 (wcells [])) (hbase : base ≤ w.heap.size) :
    Calls Try.prog 61 #[.pointer (some ⟨Bk, 0, none⟩), .agg #[.int .i64 x.h, .int .i64 x.p, .bool x.b]] w fun e w' => e = .returned (.tuple #[]) ∧
      ∃ pv', OwnR w' base 50 3 pv' ([] ++ [x]).length (wcells ([] ++ [x])) ∧ w'.heap[Bk]? = some (.cells #[.int .i64 k, .int .i64 W, .int .i64 next, .int .i64 run, ov, pv'] 103 (0, 0)) ∧ PFr w w' (.slice ao 0 cap) pv' Bk := by
  have hltB := lt_of_block hB
  have hne : (Value.slice ao 0 cap).ownBlock ≠ some Bk := hown.tag (by decide) hB
  obtain ⟨i0, hi, hz0, hz1, hz2⟩ := info_parts Try.info50
  have hBa : (w.alloc (.cells #[.int .i64 x.h, .int .i64 x.p, .bool x.b] 50)).heap[Bk]? = some (.cells #[.int .i64 k, .int .i64 W, .int .i64 next, .int .i64 run, ov, Value.slice ao 0 cap] 103 (0, 0)) := by
    rw [Below.heap_alloc _ _ _ hltB]; exact hB
  have HU : Hid (Upd (w.alloc (.cells #[.int .i64 x.h, .int .i64 x.p, .bool x.b] 50)) (w.alloc (.cells #[.int .i64 x.h, .int .i64 x.p, .bool x.b] 50)) Bk (.cells #[.int .i64 k, .int .i64 W, .int .i64 next, .int .i64 run, ov, Value.slice ao 0 cap] 103 (0, 0))) :=
    ⟨rfl, rfl, rfl, rfl, hBa, fun _ _ => rfl⟩
  have c5 : (w.alloc (.cells #[.int .i64 x.h, .int .i64 x.p, .bool x.b] 50)).cell? ⟨Bk, 5, none⟩ = some (Value.slice ao 0 cap) := cell_at hBa rfl
  have f5 : (w.alloc (.cells #[.int .i64 x.h, .int .i64 x.p, .bool x.b] 50)).frozen? ⟨Bk, 5, none⟩ = false := frozen_of_row _ _ _ _ _ hBa
  have b0 : (w.alloc (.cells #[.int .i64 x.h, .int .i64 x.p, .bool x.b] 50)).cell? ⟨w.heap.size, 0, none⟩ = some (.int .i64 x.h) := cell_at (heap_alloc_new w _) rfl
  have b1 : (w.alloc (.cells #[.int .i64 x.h, .int .i64 x.p, .bool x.b] 50)).cell? ⟨w.heap.size, 1, none⟩ = some (.int .i64 x.p) := cell_at (heap_alloc_new w _) rfl
  have b2 : (w.alloc (.cells #[.int .i64 x.h, .int .i64 x.p, .bool x.b] 50)).cell? ⟨w.heap.size, 2, none⟩ = some (.bool x.b) := cell_at (heap_alloc_new w _) rfl
  have ha4 : ∀ nq, (((w.alloc (.cells #[.int .i64 x.h, .int .i64 x.p, .bool x.b] 50)).drewN nq).alloc (.cells #[.int .i64 x.h, .int .i64 x.p, .bool x.b] 50)).cell? ⟨Bk, 5, none⟩ = some (Value.slice ao 0 cap) := fun nq => cell_allocN c5 _ nq
  have hownr : OwnR (w.alloc (.cells #[.int .i64 x.h, .int .i64 x.p, .bool x.b] 50)) base 50 3 (Value.slice ao 0 cap) 0 (wcells []) := hown.other (fun g _ hlt => Below.heap_alloc _ _ _ hlt)
  have HS : Hid ((w.alloc (.cells #[.int .i64 x.h, .int .i64 x.p, .bool x.b] 50)).heap.size = w.heap.size + 1) := by show _ = _; simp
  clear hBa
  go_enter Try.func61, Try.ntmps61
  go_wp2
  obtain ⟨wr, hwr⟩ : ∃ wr, wr = w.alloc (.cells #[.int .i64 x.h, .int .i64 x.p, .bool x.b] 50) := ⟨_, rfl⟩
  have HW : Hid (wr = w.alloc (.cells #[.int .i64 x.h, .int .i64 x.p, .bool x.b] 50)) := hwr
  have HU2 : Hid (Upd wr wr Bk (.cells #[.int .i64 k, .int .i64 W, .int .i64 next, .int .i64 run, ov, Value.slice ao 0 cap] 103 (0, 0))) := by rw [hwr]; exact HU
  rw [← hwr]
  rw [← hwr] at c5 f5 b0 b1 b2 hownr HS
  simp only [← hwr] at ha4
  clear HU hwr
  go_quiet (fail)
  go_wp2
  go_region_law (refine step_own rfl (.tmp 30) (.tmp 32) 40 rfl 50 i0 _ 3 24 Try.underlying40 hi hz0 hz1 hz2 rfl (by decide) base _ 0 (wcells []) (by simp [Act.eval]; rfl) (by exact hownr.other (fun g _ hlt => Below.heap_alloc (wr.drewN _) _ _ hlt)) ⟨wr.heap.size, 0, none⟩ 1 [.int .i64 x.h, .int .i64 x.p, .bool x.b] (by simp [Act.eval]) rfl (by exact box_cells (wr.drewN _) x _ rfl) (word_oneCell x) (by unfold maxLen; omega) (by omega) (by simp; have := HS.out; omega) ?_; intro g' o' cap' w2 hown' hfr; have hB2 : w2.heap[Bk]? = some (.cells #[.int .i64 k, .int .i64 W, .int .i64 next, .int .i64 run, ov, Value.slice ao 0 cap] 103 (0, 0)) := (hfr.other Bk (by have := HS.out; simp; omega) hne).trans ((Below.heap_alloc (wr.drewN _) _ _ (by have := HS.out; show Bk < wr.heap.size; omega)).trans HU2.out.here); have HB2 : Hid _ := hB2; have q4 := cell_at hB2 (i := 5) rfl; have qf : w2.frozen? ⟨Bk, 5, none⟩ = false := frozen_of_row w2 _ _ _ _ hB2; clear hB2)
  all_goals go_end0
  all_goals exact ⟨rfl, pick_end (L := []) (wr := wr) hltB (fun j h => h) (by have := HU2.out; rw [HW.out] at this ⊢; exact this) rfl rfl HB2.out hown' hfr⟩

set_option maxHeartbeats 1000000 in
set_option maxRecDepth 100000 in
/-- a word stands elsewhere than the last one -/
theorem pick_new (k W next run : Int) (x : W3) (base Bk g o cap : Nat) (ov : Value) (M : List W3) (hM : 0 < M.length) (hM2 : M.length < 4398046511104) (w : World)
    (hB : w.heap[Bk]? = some (.cells #[.int .i64 k, .int .i64 W, .int .i64 next, .int .i64 run, ov, .slice (some ⟨g, o, none⟩) M.length cap] 103 (0, 0)))
    (hown : OwnR w base 50 3 (.slice (some ⟨g, o, none⟩) M.length cap) M.length (wcells M)) (hbase : base ≤ w.heap.size)
    (p1 : Int) (hc : w.cell? ⟨g, o + (M.length - 1) * 3 + 1, none⟩ = some (.int .i64 p1)) (hp : (p1 != x.p) = true) :
    Calls Try.prog 61 #[.pointer (some ⟨Bk, 0, none⟩), .agg #[.int .i64 x.h, .int .i64 x.p, .bool x.b]] w fun e w' => e = .returned (.tuple #[]) ∧
      ∃ pv', OwnR w' base 50 3 pv' (M ++ [x]).length (wcells (M ++ [x])) ∧ w'.heap[Bk]? = some (.cells #[.int .i64 k, .int .i64 W, .int .i64 next, .int .i64 run, ov, pv'] 103 (0, 0)) ∧ PFr w w' (.slice (some ⟨g, o, none⟩) M.length cap) pv' Bk := by
  have hltB := lt_of_block hB
  have hne : (Value.slice (some ⟨g, o, none⟩) M.length cap).ownBlock ≠ some Bk := hown.tag (by decide) hB
  obtain ⟨i0, hi, hz0, hz1, hz2⟩ := info_parts Try.info50
  have hBa : (w.alloc (.cells #[.int .i64 x.h, .int .i64 x.p, .bool x.b] 50)).heap[Bk]? = some (.cells #[.int .i64 k, .int .i64 W, .int .i64 next, .int .i64 run, ov, Value.slice (some ⟨g, o, none⟩) M.length cap] 103 (0, 0)) := by
    rw [Below.heap_alloc _ _ _ hltB]; exact hB
  have HU : Hid (Upd (w.alloc (.cells #[.int .i64 x.h, .int .i64 x.p, .bool x.b] 50)) (w.alloc (.cells #[.int .i64 x.h, .int .i64 x.p, .bool x.b] 50)) Bk (.cells #[.int .i64 k, .int .i64 W, .int .i64 next, .int .i64 run, ov, Value.slice (some ⟨g, o, none⟩) M.length cap] 103 (0, 0))) :=
    ⟨rfl, rfl, rfl, rfl, hBa, fun _ _ => rfl⟩
  have c5 : (w.alloc (.cells #[.int .i64 x.h, .int .i64 x.p, .bool x.b] 50)).cell? ⟨Bk, 5, none⟩ = some (Value.slice (some ⟨g, o, none⟩) M.length cap) := cell_at hBa rfl
  have f5 : (w.alloc (.cells #[.int .i64 x.h, .int .i64 x.p, .bool x.b] 50)).frozen? ⟨Bk, 5, none⟩ = false := frozen_of_row _ _ _ _ _ hBa
  have b0 : (w.alloc (.cells #[.int .i64 x.h, .int .i64 x.p, .bool x.b] 50)).cell? ⟨w.heap.size, 0, none⟩ = some (.int .i64 x.h) := cell_at (heap_alloc_new w _) rfl
  have b1 : (w.alloc (.cells #[.int .i64 x.h, .int .i64 x.p, .bool x.b] 50)).cell? ⟨w.heap.size, 1, none⟩ = some (.int .i64 x.p) := cell_at (heap_alloc_new w _) rfl
  have b2 : (w.alloc (.cells #[.int .i64 x.h, .int .i64 x.p, .bool x.b] 50)).cell? ⟨w.heap.size, 2, none⟩ = some (.bool x.b) := cell_at (heap_alloc_new w _) rfl
  have ha4 : ∀ nq, (((w.alloc (.cells #[.int .i64 x.h, .int .i64 x.p, .bool x.b] 50)).drewN nq).alloc (.cells #[.int .i64 x.h, .int .i64 x.p, .bool x.b] 50)).cell? ⟨Bk, 5, none⟩ = some (Value.slice (some ⟨g, o, none⟩) M.length cap) := fun nq => cell_allocN c5 _ nq
  have hownr : OwnR (w.alloc (.cells #[.int .i64 x.h, .int .i64 x.p, .bool x.b] 50)) base 50 3 (Value.slice (some ⟨g, o, none⟩) M.length cap) M.length (wcells M) := hown.other (fun g _ hlt => Below.heap_alloc _ _ _ hlt)
  have HS : Hid ((w.alloc (.cells #[.int .i64 x.h, .int .i64 x.p, .bool x.b] 50)).heap.size = w.heap.size + 1) := by show _ = _; simp
  clear hBa
  have cl : (w.alloc (.cells #[.int .i64 x.h, .int .i64 x.p, .bool x.b] 50)).cell? ⟨g, o + (M.length - 1) * 3 + 1, none⟩ = some (.int .i64 p1) :=
    (World.cell?_of_block (Below.heap_alloc w _ _ (block_lt_of_cell hc))).trans hc
  clear hc
  have h0 : ((M.length : Int) == 0) = false := by rw [beq_eq_false_iff_ne]; omega
  have hkI : ((M.length : Int) - 1).toNat = M.length - 1 := by omega
  have hkI2 : 0 ≤ (M.length : Int) - 1 := by omega
  have hkI3 : (M.length : Int) - 1 < M.length := by omega
  go_enter Try.func61, Try.ntmps61
  go_wp2
  obtain ⟨wr, hwr⟩ : ∃ wr, wr = w.alloc (.cells #[.int .i64 x.h, .int .i64 x.p, .bool x.b] 50) := ⟨_, rfl⟩
  have HW : Hid (wr = w.alloc (.cells #[.int .i64 x.h, .int .i64 x.p, .bool x.b] 50)) := hwr
  have HU2 : Hid (Upd wr wr Bk (.cells #[.int .i64 k, .int .i64 W, .int .i64 next, .int .i64 run, ov, Value.slice (some ⟨g, o, none⟩) M.length cap] 103 (0, 0))) := by rw [hwr]; exact HU
  rw [← hwr]
  rw [← hwr] at cl c5 f5 b0 b1 b2 hownr HS
  simp only [← hwr] at ha4
  clear HU hwr
  go_quiet (fail)
  go_wp2
  go_region_law (refine step_own rfl (.tmp 30) (.tmp 32) 40 rfl 50 i0 _ 3 24 Try.underlying40 hi hz0 hz1 hz2 rfl (by decide) base _ M.length (wcells M) (by simp [Act.eval]; rfl) (by exact hownr.other (fun g _ hlt => Below.heap_alloc (wr.drewN _) _ _ hlt)) ⟨wr.heap.size, 0, none⟩ 1 [.int .i64 x.h, .int .i64 x.p, .bool x.b] (by simp [Act.eval]) rfl (by exact box_cells (wr.drewN _) x _ rfl) (word_oneCell x) (by unfold maxLen; omega) (by omega) (by simp; have := HS.out; omega) ?_; intro g' o' cap' w2 hown' hfr; have hB2 : w2.heap[Bk]? = some (.cells #[.int .i64 k, .int .i64 W, .int .i64 next, .int .i64 run, ov, Value.slice (some ⟨g, o, none⟩) M.length cap] 103 (0, 0)) := (hfr.other Bk (by have := HS.out; simp; omega) hne).trans ((Below.heap_alloc (wr.drewN _) _ _ (by have := HS.out; show Bk < wr.heap.size; omega)).trans HU2.out.here); have HB2 : Hid _ := hB2; have q4 := cell_at hB2 (i := 5) rfl; have qf : w2.frozen? ⟨Bk, 5, none⟩ = false := frozen_of_row w2 _ _ _ _ hB2; clear hB2)
  all_goals go_end0
  all_goals exact ⟨rfl, pick_end (wr := wr) hltB (fun j h => h) (by have := HU2.out; rw [HW.out] at this ⊢; exact this) rfl rfl HB2.out hown' hfr⟩

set_option maxHeartbeats 1000000 in
set_option maxRecDepth 100000 in
/-- it is the last one -/
theorem pick_same (k W next run : Int) (x : W3) (base Bk g o cap : Nat) (ov : Value) (M : List W3) (hM : 0 < M.length) (hM2 : M.length < 4398046511104) (w : World)
    (hB : w.heap[Bk]? = some (.cells #[.int .i64 k, .int .i64 W, .int .i64 next, .int .i64 run, ov, .slice (some ⟨g, o, none⟩) M.length cap] 103 (0, 0)))
    (hown : OwnR w base 50 3 (.slice (some ⟨g, o, none⟩) M.length cap) M.length (wcells M)) (hbase : base ≤ w.heap.size)
    (p1 : Int) (hc : w.cell? ⟨g, o + (M.length - 1) * 3 + 1, none⟩ = some (.int .i64 p1)) (hp : (p1 != x.p) = false) :
    Calls Try.prog 61 #[.pointer (some ⟨Bk, 0, none⟩), .agg #[.int .i64 x.h, .int .i64 x.p, .bool x.b]] w fun e w' => e = .returned (.tuple #[]) ∧
      OwnR w' base 50 3 (.slice (some ⟨g, o, none⟩) M.length cap) M.length (wcells M) ∧ w'.heap[Bk]? = some (.cells #[.int .i64 k, .int .i64 W, .int .i64 next, .int .i64 run, ov, .slice (some ⟨g, o, none⟩) M.length cap] 103 (0, 0)) ∧ PFr w w' (.slice (some ⟨g, o, none⟩) M.length cap) (.slice (some ⟨g, o, none⟩) M.length cap) Bk := by
  have hltB := lt_of_block hB
  have hne : (Value.slice (some ⟨g, o, none⟩) M.length cap).ownBlock ≠ some Bk := hown.tag (by decide) hB
  obtain ⟨i0, hi, hz0, hz1, hz2⟩ := info_parts Try.info50
  have hBa : (w.alloc (.cells #[.int .i64 x.h, .int .i64 x.p, .bool x.b] 50)).heap[Bk]? = some (.cells #[.int .i64 k, .int .i64 W, .int .i64 next, .int .i64 run, ov, Value.slice (some ⟨g, o, none⟩) M.length cap] 103 (0, 0)) := by
    rw [Below.heap_alloc _ _ _ hltB]; exact hB
  have HU : Hid (Upd (w.alloc (.cells #[.int .i64 x.h, .int .i64 x.p, .bool x.b] 50)) (w.alloc (.cells #[.int .i64 x.h, .int .i64 x.p, .bool x.b] 50)) Bk (.cells #[.int .i64 k, .int .i64 W, .int .i64 next, .int .i64 run, ov, Value.slice (some ⟨g, o, none⟩) M.length cap] 103 (0, 0))) :=
    ⟨rfl, rfl, rfl, rfl, hBa, fun _ _ => rfl⟩
  have c5 : (w.alloc (.cells #[.int .i64 x.h, .int .i64 x.p, .bool x.b] 50)).cell? ⟨Bk, 5, none⟩ = some (Value.slice (some ⟨g, o, none⟩) M.length cap) := cell_at hBa rfl
  have f5 : (w.alloc (.cells #[.int .i64 x.h, .int .i64 x.p, .bool x.b] 50)).frozen? ⟨Bk, 5, none⟩ = false := frozen_of_row _ _ _ _ _ hBa
  have b0 : (w.alloc (.cells #[.int .i64 x.h, .int .i64 x.p, .bool x.b] 50)).cell? ⟨w.heap.size, 0, none⟩ = some (.int .i64 x.h) := cell_at (heap_alloc_new w _) rfl
  have b1 : (w.alloc (.cells #[.int .i64 x.h, .int .i64 x.p, .bool x.b] 50)).cell? ⟨w.heap.size, 1, none⟩ = some (.int .i64 x.p) := cell_at (heap_alloc_new w _) rfl
  have b2 : (w.alloc (.cells #[.int .i64 x.h, .int .i64 x.p, .bool x.b] 50)).cell? ⟨w.heap.size, 2, none⟩ = some (.bool x.b) := cell_at (heap_alloc_new w _) rfl
  have ha4 : ∀ nq, (((w.alloc (.cells #[.int .i64 x.h, .int .i64 x.p, .bool x.b] 50)).drewN nq).alloc (.cells #[.int .i64 x.h, .int .i64 x.p, .bool x.b] 50)).cell? ⟨Bk, 5, none⟩ = some (Value.slice (some ⟨g, o, none⟩) M.length cap) := fun nq => cell_allocN c5 _ nq
  have hownr : OwnR (w.alloc (.cells #[.int .i64 x.h, .int .i64 x.p, .bool x.b] 50)) base 50 3 (Value.slice (some ⟨g, o, none⟩) M.length cap) M.length (wcells M) := hown.other (fun g _ hlt => Below.heap_alloc _ _ _ hlt)
  have HS : Hid ((w.alloc (.cells #[.int .i64 x.h, .int .i64 x.p, .bool x.b] 50)).heap.size = w.heap.size + 1) := by show _ = _; simp
  clear hBa
  have cl : (w.alloc (.cells #[.int .i64 x.h, .int .i64 x.p, .bool x.b] 50)).cell? ⟨g, o + (M.length - 1) * 3 + 1, none⟩ = some (.int .i64 p1) :=
    (World.cell?_of_block (Below.heap_alloc w _ _ (block_lt_of_cell hc))).trans hc
  clear hc
  have h0 : ((M.length : Int) == 0) = false := by rw [beq_eq_false_iff_ne]; omega
  have hkI : ((M.length : Int) - 1).toNat = M.length - 1 := by omega
  have hkI2 : 0 ≤ (M.length : Int) - 1 := by omega
  have hkI3 : (M.length : Int) - 1 < M.length := by omega
  go_enter Try.func61, Try.ntmps61
  go_wp2
  obtain ⟨wr, hwr⟩ : ∃ wr, wr = w.alloc (.cells #[.int .i64 x.h, .int .i64 x.p, .bool x.b] 50) := ⟨_, rfl⟩
  have HW : Hid (wr = w.alloc (.cells #[.int .i64 x.h, .int .i64 x.p, .bool x.b] 50)) := hwr
  have HU2 : Hid (Upd wr wr Bk (.cells #[.int .i64 k, .int .i64 W, .int .i64 next, .int .i64 run, ov, Value.slice (some ⟨g, o, none⟩) M.length cap] 103 (0, 0))) := by rw [hwr]; exact HU
  rw [← hwr]
  rw [← hwr] at cl c5 f5 b0 b1 b2 hownr HS
  simp only [← hwr] at ha4
  clear HU hwr
  go_quiet (fail)
  go_wp2
  go_end0
  refine ⟨rfl, hownr, HU2.out.here, ?_⟩
  have := HW.out
  subst this
  exact ⟨rfl, rfl, rfl, by simp, fun j hj _ _ => Below.heap_alloc w _ j hj, fun g hg => Or.inl hg⟩
end Go.Proofs.Ytilcmkiihefkkaa
