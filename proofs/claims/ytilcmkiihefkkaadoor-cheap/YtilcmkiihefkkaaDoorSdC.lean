import Derived.Test.YtilcmkiihefkkaaDoorSdB
set_option linter.unusedVariables false
set_option linter.unusedSimpArgs false
set_option maxRecDepth 100000
namespace Go.Proofs.YtilcmkiihefkkaaDoor
open Go.RowKit Go.Shelf Go.Lib

theorem enterCcmp (args : Array Value) (w : World) : (callFunc 34 args).run Tryd.prog w = .ok (.enter 34 args) w := enters_of Tryd.func34 (by kernel_rfl) rfl args w

/-- the first of the least, among the first i -/
def bi (f : Nat → Int) : Nat → Nat
  | 0 => 0
  | i + 1 => if f i < f (bi f i) then i else bi f i

theorem bi_lt (f : Nat → Int) : ∀ i, 0 < i → bi f i < i
  | 0, h => absurd h (by omega)
  | i + 1, _ => by
    unfold bi
    split
    · omega
    · rcases Nat.eq_zero_or_pos i with rfl | h
      · simp [bi]
      · have := bi_lt f i h; omega

/-- MinFunc at work -/
def MnI (w wx : World) (X : Nat) (k a : Int) : Prop := wx.heap[X]? = some (.cells #[.int .i64 0, .int .i64 0] 53 (0, 0)) ∧ wx.heap[X + 1]? = some (.cells #[.int .i64 k, .int .i64 a] 53 (0, 0)) ∧ Below X w wx

theorem MnI.below {w wx wy : World} {X : Nat} {k a : Int} (h : MnI w wx X k a) {B : Nat} (hb : Below B wx wy) (hB : X + 1 < B) : MnI w wy X k a :=
  ⟨(hb.block X (by omega)).trans h.1, (hb.block (X + 1) hB).trans h.2.1, h.2.2.trans (hb.mono (by omega))⟩

theorem MnI.set {w wx : World} {X : Nat} {k a : Int} (h : MnI w wx X k a) (l b : Int) : MnI w ((wx.setCell ⟨X + 1, 0, none⟩ (.int .i64 l)).setCell ⟨X + 1, 1, none⟩ (.int .i64 b)) X l b := by
  obtain ⟨h1, h2, h3⟩ := h
  have u := (Upd.of_setCell (i := 0) (.int .i64 l) h2).setCell (i := 1) (.int .i64 b)
  exact ⟨(u.other X (by omega)).trans h1, u.here, ((h3.setCell (p := ⟨X + 1, 0, none⟩) (Nat.le_succ _) _).setCell (p := ⟨X + 1, 1, none⟩) (Nat.le_succ _) _)⟩

theorem cmpI_neg (a b : Int) : decide (cmpI a b < 0) = decide (a < b) := by
  unfold cmpI
  by_cases h1 : a < b
  · simp [h1]
  · rw [if_neg h1]
    by_cases h2 : b < a
    · simp [h1, h2]
    · simp [h1, h2]

set_option maxHeartbeats 4000000 in
theorem minf_any (f : Nat → Int) (g : Nat) (w : World) (hg : g < w.heap.size)
    (hC : ∀ j, j < 3 → w.cell? ⟨g, j * 2, none⟩ = some (.int .i64 j) ∧ w.cell? ⟨g, j * 2 + 1, none⟩ = some (.int .i64 (f j))) :
    Calls Tryd.prog 33 #[.slice (some ⟨g, 0, none⟩) 3 3, .func (.func 34) #[] #[]] w fun e w' => e = .returned (.agg #[.int .i64 (bi f 3 : Nat), .int .i64 (f (bi f 3))]) ∧ Below w.heap.size w w' := by
  have HC : Hid (∀ j, j < 3 → w.cell? ⟨g, j * 2, none⟩ = some (.int .i64 j) ∧ w.cell? ⟨g, j * 2 + 1, none⟩ = some (.int .i64 (f j))) := hC
  obtain ⟨d1, d2⟩ := hC 0 (by omega)
  simp only [Nat.zero_mul, Nat.add_zero, Nat.zero_add, Int.ofNat_zero] at d1 d2
  obtain ⟨c0, hc0⟩ : ∃ c0, c0 = f 0 := ⟨_, rfl⟩
  rw [← hc0] at d2
  have HC0 : Hid (c0 = f 0) := hc0
  have e1 : ∀ ob, (w.alloc ob).cell? ⟨g, 0, none⟩ = some (.int .i64 0) := fun ob => (World.cell?_of_block (Below.heap_alloc _ _ g hg)).trans d1
  have e2 : ∀ ob, (w.alloc ob).cell? ⟨g, 1, none⟩ = some (.int .i64 c0) := fun ob => (World.cell?_of_block (Below.heap_alloc _ _ g hg)).trans d2
  clear d1 d2 hC hc0
  go_enter Tryd.func33, Tryd.ntmps33
  go_wp2_with fail
  obtain ⟨X, hX⟩ : ∃ X, X = w.heap.size := ⟨_, rfl⟩
  have HX : Hid (X = w.heap.size) := hX
  have HST : Hid (MnI w ((w.alloc (.cells #[.int .i64 0, .int .i64 0] 53)).alloc (.cells #[.int .i64 0, .int .i64 c0] 53)) X (bi f 1 : Nat) (f (bi f 1))) := by
    refine ⟨?_, ?_, ?_⟩
    · rw [hX]
      exact (Below.heap_alloc (w.alloc (.cells #[.int .i64 0, .int .i64 0] 53)) _ _ (by simp)).trans (heap_alloc_new w _)
    · have := heap_alloc_new (w.alloc (.cells #[.int .i64 0, .int .i64 0] 53)) (.cells #[.int .i64 0, .int .i64 c0] 53 (0, 0))
      have e : (w.alloc (.cells #[.int .i64 0, .int .i64 0] 53)).heap.size = w.heap.size + 1 := by simp
      rw [e] at this
      rw [hX]
      have hb : bi f 1 = 0 := by have := bi_lt f 1 (by omega); omega
      rw [hb, ← HC0.out]
      exact this
    · rw [hX]
      exact ((Below.refl _ w).alloc (Nat.le_refl _) _).alloc (by simp) _
  rw [← hX]
  have hgX : g < X := by omega
  clear e1 e2 hX
  go_loopw [6] (fun iv wx => ∃ i : Nat, 1 ≤ i ∧ i ≤ 3 ∧ iv = .int .i64 i ∧ MnI w wx X (bi f i : Nat) (f (bi f i))) (fun iv _ => 3 - (intOf iv).toNat)
  case atStart => exact ⟨1, by omega, by omega, rfl, HST.out⟩
  case round =>
    clear HST
    obtain ⟨i, hi1, hi2, rfl, hI⟩ := hrel
    have HMB : Hid (∀ x, x = bi f i → x = bi f i) := fun _ h => h
    obtain ⟨mb, hmb⟩ : ∃ m, m = bi f i := ⟨_, rfl⟩
    obtain ⟨mq, hmq⟩ : ∃ m, m = f mb := ⟨_, rfl⟩
    rw [← hmb, ← hmq] at hI
    have HMB : Hid (mb = bi f i) := hmb
    have HMQ : Hid (mq = f mb) := hmq
    have hI2 := hI.2.1
    have hI1 := hI.1
    have m0 : wr.cell? ⟨X + 1, 0, none⟩ = some (.int .i64 mb) := cell_at hI2 rfl
    have m1 : wr.cell? ⟨X + 1, 1, none⟩ = some (.int .i64 mq) := cell_at hI2 rfl
    have hXlt : X + 1 < wr.heap.size := lt_of_block hI2
    by_cases hlt : i < 3
    · have hltI : (i : Int) < 3 := by omega
      obtain ⟨tq, htq⟩ : ∃ t, t = f i := ⟨_, rfl⟩
      obtain ⟨d1, d2⟩ := HC.out i hlt
      rw [← htq] at d2
      have HTQ : Hid (tq = f i) := htq
      rw [← hI.2.2.cell hgX] at d1 d2
      have cL := fun W => ccmp_any i tq mb mq W
      have HP : Hid (decide (cmpI tq mq < 0) = decide (tq < mq)) := cmpI_neg tq mq
      obtain ⟨r, hr⟩ : ∃ r, r = cmpI tq mq := ⟨_, rfl⟩
      rw [← hr] at cL HP
      have hrr : -1 ≤ r ∧ r ≤ 1 := by
        rw [hr]; unfold cmpI
        split
        · omega
        · split <;> omega
      have cQ : ∀ d os, Calls Tryd.prog 34 #[.agg #[.int .i64 i, .int .i64 tq], .agg #[.int .i64 mb, .int .i64 mq]] (Sort.grow (redrawn wr d) os) fun e w'' => e = .returned (.int .i64 r) ∧ ∃ p : Regrown, w'' = Sort.grow (redrawn wr p.d) p.os := fun d os => Calls.regrown_of (cL _)
      have k1 := cell_regrown d1
      have k2 := cell_regrown d2
      have k5 := cell_regrown m0
      have k6 := cell_regrown m1
      have HI : Hid (MnI w wr X mb mq) := hI
      have e49 := enterCcmp
      clear hr cL hI hI1 hI2 hmb hmq htq
      go_wp2_with fail
      refine wp_region_quiet_below (by kernel_rfl) (by kernel_rfl) ?_
      repeat (go_big_quiet_step (exact cQ _ _))
      refine wpQuiet_nil ?_
      intro w5 hw'
      have hb5 : Below wr.heap.size wr w5 := by
        obtain ⟨pq, hw''⟩ := hw'
        rw [hw'']; exact below_regrown wr pq.d pq.os
      have hgw : g < wr.heap.size := by omega
      have b1 : w5.cell? ⟨g, i * 2, none⟩ = some (.int .i64 i) := by rw [hb5.cell hgw]; exact d1
      have b2 : w5.cell? ⟨g, i * 2 + 1, none⟩ = some (.int .i64 tq) := by rw [hb5.cell hgw]; exact d2
      have hI5 : MnI w w5 X mb mq := HI.out.below hb5 hXlt
      have n0 : w5.cell? ⟨X + 1, 0, none⟩ = some (.int .i64 mb) := cell_at hI5.2.1 rfl
      have n1 : w5.cell? ⟨X + 1, 1, none⟩ = some (.int .i64 mq) := cell_at hI5.2.1 rfl
      have nf : ∀ j, w5.frozen? ⟨X + 1, j, none⟩ = false := fun j => frozen_of_row _ _ _ _ _ hI5.2.1
      have HI5 : Hid (MnI w w5 X mb mq) := hI5
      clear hw' hb5 k1 k2 k5 k6 cQ d1 d2 m0 m1 hI5 HI
      by_cases hgt : tq < mq
      · have hr0 : r < 0 := by have := HP.out; simpa [hgt] using this
        go_wp2_with fail
        go_roundw
        case rel =>
          refine ⟨i + 1, by omega, by omega, by go_num, ?_⟩
          have e : bi f (i + 1) = i := by
            rw [bi, if_pos]
            rw [← HMB.out, ← HMQ.out, ← HTQ.out]; exact hgt
          rw [e, ← HTQ.out]
          exact HI5.out.set i tq
        case measure => simp [intOf]; omega
      · have hr0 : ¬ r < 0 := by have := HP.out; simpa [hgt] using this
        go_wp2_with fail
        go_roundw
        case rel =>
          refine ⟨i + 1, by omega, by omega, by go_num, ?_⟩
          have e : bi f (i + 1) = bi f i := by
            rw [bi, if_neg]
            rw [← HMB.out, ← HMQ.out, ← HTQ.out]; exact hgt
          rw [e, ← HMB.out, ← HMQ.out]
          exact HI5.out
        case measure => simp [intOf]; omega
    · have hie : i = 3 := by omega
      subst hie
      have HI : Hid (MnI w wr X mb mq) := hI
      have r0 := cell_at hI1 (i := 0) rfl
      have r1 := cell_at hI1 (i := 1) rfl
      have rf : ∀ j, wr.frozen? ⟨X, j, none⟩ = false := fun j => frozen_of_row _ _ _ _ _ hI1
      clear hI hI1 hI2 hmb hmq
      go_wp2_with fail
      obtain ⟨h1, h2, h3⟩ := HI.out
      have u := (Upd.of_setCell (i := 0) (.int .i64 mb) h1).setCell (i := 1) (.int .i64 mq)
      have HB9 : Hid (Below X w ((wr.setCell ⟨X, 0, none⟩ (.int .i64 mb)).setCell ⟨X, 1, none⟩ (.int .i64 mq))) := ((h3.setCell (p := ⟨X, 0, none⟩) (Nat.le_refl _) _).setCell (p := ⟨X, 1, none⟩) (Nat.le_refl _) _)
      have hu := u.here
      clear u h1 h2 h3 r0 r1 rf m0 m1
      generalize ((wr.setCell ⟨X, 0, none⟩ (.int .i64 mb)).setCell ⟨X, 1, none⟩ (.int .i64 mq)) = w9 at hu HB9 ⊢
      have q0 : w9.cell? ⟨X, 0, none⟩ = some (.int .i64 mb) := cell_at hu rfl
      have q1 : w9.cell? ⟨X, 1, none⟩ = some (.int .i64 mq) := cell_at hu rfl
      clear hu
      refine bodyPost_ret (by simp [results, Tryd.results33, go_sem, q0, q1]; try rfl) rfl ?_
      refine ⟨?_, by rw [← HX.out]; exact HB9.out⟩
      rw [← HMB.out, ← HMQ.out]
end Go.Proofs.YtilcmkiihefkkaaDoor
