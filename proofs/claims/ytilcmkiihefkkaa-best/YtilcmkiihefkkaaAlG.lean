import Derived.Test.YtilcmkiihefkkaaAlC
set_option linter.unusedVariables false
set_option linter.unusedSimpArgs false
namespace Go.Proofs.Ytilcmkiihefkkaa
open Go.RowKit Go.Shelf Go.Lib

theorem run_store_flt2 (P : Program) (w : World) (a : Addr) (m : Mode) (k : FloatKind) (b : Nat) : (store a (.float k b) m).run P w = stored P w a (.float k b) m := run_store P w a _ m rfl

attribute [local go_sem] run_store_flt2

theorem enter49 (args : Array Value) (w : World) : (callFunc 49 args).run Try.prog w = .ok (.enter 49 args) w := enters_of Try.func49 (by kernel_rfl) rfl args w

/-- a link's cells -/
def lkC (l : Lk) : Array Value := #[.int .i64 l.a.1, .int .i64 l.a.2, .float .f64 (fq l.q), .int .i64 l.p]

theorem cmpI_pos (a b : Int) : decide (0 < cmpI a b) = decide (b < a) := by
  unfold cmpI
  by_cases h1 : a < b
  · rw [if_pos h1]; have : ¬ b < a := by omega
    simp [this]
  · rw [if_neg h1]
    by_cases h2 : b < a
    · simp [h2]
    · simp [h2]

/-- MaxFunc at work -/
def MxI (w wx : World) (X : Nat) (l : Lk) : Prop := wx.heap[X]? = some (.cells #[.int .i64 0, .int .i64 0, .float .f64 0, .int .i64 0] 118 (0, 0)) ∧ wx.heap[X + 1]? = some (.cells (lkC l) 118 (0, 0)) ∧ Below X w wx

theorem MxI.below {w wx wy : World} {X : Nat} {l : Lk} (h : MxI w wx X l) {B : Nat} (hb : Below B wx wy) (hB : X + 1 < B) : MxI w wy X l :=
  ⟨(hb.block X (by omega)).trans h.1, (hb.block (X + 1) hB).trans h.2.1, h.2.2.trans (hb.mono (by omega))⟩

theorem MxI.set {w wx : World} {X : Nat} {l : Lk} (h : MxI w wx X l) (m : Lk) : MxI w ((((wx.setCell ⟨X + 1, 0, none⟩ (.int .i64 m.a.1)).setCell ⟨X + 1, 1, none⟩ (.int .i64 m.a.2)).setCell ⟨X + 1, 2, none⟩ (.float .f64 (fq m.q))).setCell ⟨X + 1, 3, none⟩ (.int .i64 m.p)) X m := by
  obtain ⟨h1, h2, h3⟩ := h
  have u := (((Upd.of_setCell (i := 0) (.int .i64 m.a.1) h2).setCell (i := 1) (.int .i64 m.a.2)).setCell (i := 2) (.float .f64 (fq m.q))).setCell (i := 3) (.int .i64 m.p)
  exact ⟨(u.other X (by omega)).trans h1, u.here, (((h3.setCell (p := ⟨X + 1, 0, none⟩) (Nat.le_succ _) _).setCell (p := ⟨X + 1, 1, none⟩) (Nat.le_succ _) _).setCell (p := ⟨X + 1, 2, none⟩) (Nat.le_succ _) _).setCell (p := ⟨X + 1, 3, none⟩) (Nat.le_succ _) _⟩

set_option maxHeartbeats 4000000 in
set_option maxRecDepth 100000 in
theorem maxFunc_any (T : List Lk) (n : Nat) (hn : T.length = n) (h0 : 0 < n) (h4 : n ≤ 1000) (base g o cap : Nat) (w : World) (hown : OwnR w base 118 4 (.slice (some ⟨g, o, none⟩) n cap) n (lcells T)) (hq : ∀ j, j < n → 0 ≤ (T.getD j Lk0).q ∧ (T.getD j Lk0).q ≤ 100000) :
    Calls Try.prog 48 #[.slice (some ⟨g, o, none⟩) n cap, .func (.func 49) #[] #[]] w fun e w' => e = .returned (.agg (lkC (T.getD (mxi T n) Lk0))) ∧ Below w.heap.size w w' := by
  have HN : Hid (T.length = n) := hn
  have hg : g < w.heap.size := (hown.lt rfl).2
  have HC : Hid (∀ j, j < T.length → w.cell? ⟨g, o + j * 4, none⟩ = some (.int .i64 (T.getD j Lk0).a.1) ∧ w.cell? ⟨g, o + j * 4 + 1, none⟩ = some (.int .i64 (T.getD j Lk0).a.2) ∧ w.cell? ⟨g, o + j * 4 + 2, none⟩ = some (.float .f64 (fq (T.getD j Lk0).q)) ∧ w.cell? ⟨g, o + j * 4 + 3, none⟩ = some (.int .i64 (T.getD j Lk0).p)) := hown.lks
  have HQ : Hid (∀ j, j < n → 0 ≤ (T.getD j Lk0).q ∧ (T.getD j Lk0).q ≤ 100000) := hq
  have hnI : ¬ ((n : Int) < 1) := by omega
  have h0I : (0 : Int) < n := by omega
  clear hn hown hq
  obtain ⟨t, ht⟩ : ∃ t, t = T.getD 0 Lk0 := ⟨_, rfl⟩
  have hc0 := HC.out 0 (by rw [HN.out]; exact h0)
  rw [← ht] at hc0
  simp only [Nat.zero_mul, Nat.add_zero] at hc0
  obtain ⟨d1, d2, d3, d4⟩ := hc0
  have HT0 : Hid (lkC (T.getD (mxi T 1) Lk0) = lkC t) := by
    show _ = _
    have : mxi T 1 = 0 := by
      have := mxi_lt T 1 (by omega)
      omega
    rw [this, ht]
  obtain ⟨⟨tr, tp⟩, tq, tpp⟩ := t
  simp only at d1 d2 d3 d4
  have e1 : ∀ ob, (w.alloc ob).cell? ⟨g, o, none⟩ = some (.int .i64 tr) := fun ob => (World.cell?_of_block (Below.heap_alloc _ _ g hg)).trans d1
  have e2 : ∀ ob, (w.alloc ob).cell? ⟨g, o + 1, none⟩ = some (.int .i64 tp) := fun ob => (World.cell?_of_block (Below.heap_alloc _ _ g hg)).trans d2
  have e3 : ∀ ob, (w.alloc ob).cell? ⟨g, o + 2, none⟩ = some (.float .f64 (fq tq)) := fun ob => (World.cell?_of_block (Below.heap_alloc _ _ g hg)).trans d3
  have e4 : ∀ ob, (w.alloc ob).cell? ⟨g, o + 3, none⟩ = some (.int .i64 tpp) := fun ob => (World.cell?_of_block (Below.heap_alloc _ _ g hg)).trans d4
  clear d1 d2 d3 d4 ht
  go_enter Try.func48, Try.ntmps48
  go_wp2_with fail
  obtain ⟨X, hX⟩ : ∃ X, X = w.heap.size := ⟨_, rfl⟩
  have HX : Hid (X = w.heap.size) := hX
  have HST : Hid (MxI w ((w.alloc (.cells #[.int .i64 0, .int .i64 0, .float .f64 0, .int .i64 0] 118)).alloc (.cells #[.int .i64 tr, .int .i64 tp, .float .f64 (fq tq), .int .i64 tpp] 118)) X (T.getD (mxi T 1) Lk0)) := by
    refine ⟨?_, ?_, ?_⟩
    · rw [hX]
      exact (Below.heap_alloc (w.alloc (.cells #[.int .i64 0, .int .i64 0, .float .f64 0, .int .i64 0] 118)) _ _ (by simp)).trans (heap_alloc_new w _)
    · rw [HT0.out]
      have := heap_alloc_new (w.alloc (.cells #[.int .i64 0, .int .i64 0, .float .f64 0, .int .i64 0] 118)) (.cells #[.int .i64 tr, .int .i64 tp, .float .f64 (fq tq), .int .i64 tpp] 118 (0, 0))
      have e : (w.alloc (.cells #[.int .i64 0, .int .i64 0, .float .f64 0, .int .i64 0] 118)).heap.size = w.heap.size + 1 := by simp
      rw [e] at this
      rw [hX]
      exact this
    · rw [hX]
      exact ((Below.refl _ w).alloc (Nat.le_refl _) _).alloc (by simp) _
  rw [← hX]
  have hgX : g < X := by omega
  clear e1 e2 e3 e4 HT0 hX
  go_loopw [6] (fun iv wx => ∃ i : Nat, 1 ≤ i ∧ i ≤ n ∧ iv = .int .i64 i ∧ MxI w wx X (T.getD (mxi T i) Lk0)) (fun iv _ => n - (intOf iv).toNat)
  case atStart => exact ⟨1, by omega, h0, rfl, HST.out⟩
  case round =>
    clear HST
    obtain ⟨i, hi1, hi2, rfl, hI⟩ := hrel
    have hml := mxi_lt T i (by omega)
    obtain ⟨mb, hmb⟩ : ∃ m, m = T.getD (mxi T i) Lk0 := ⟨_, rfl⟩
    have hmq := HQ.out (mxi T i) (by omega)
    rw [← hmb] at hI hmq
    have HMB : Hid (mb = T.getD (mxi T i) Lk0) := hmb
    obtain ⟨⟨mr, mp⟩, mq, mpp⟩ := mb
    simp only at hmq
    have hI2 := hI.2.1
    have hI1 := hI.1
    have m0 : wr.cell? ⟨X + 1, 0, none⟩ = some (.int .i64 mr) := cell_at hI2 rfl
    have m1 : wr.cell? ⟨X + 1, 1, none⟩ = some (.int .i64 mp) := cell_at hI2 rfl
    have m2 : wr.cell? ⟨X + 1, 2, none⟩ = some (.float .f64 (fq mq)) := cell_at hI2 rfl
    have m3 : wr.cell? ⟨X + 1, 3, none⟩ = some (.int .i64 mpp) := cell_at hI2 rfl
    have hXlt : X + 1 < wr.heap.size := lt_of_block hI2
    by_cases hlt : i < n
    · have hltI : (i : Int) < n := by omega
      obtain ⟨t, ht⟩ : ∃ t, t = T.getD i Lk0 := ⟨_, rfl⟩
      have hc0 := HC.out i (by rw [HN.out]; exact hlt)
      have htq := HQ.out i hlt
      rw [← ht] at hc0 htq
      have HT : Hid (t = T.getD i Lk0) := ht
      obtain ⟨⟨tr, tp⟩, tq, tpp⟩ := t
      simp only at hc0 htq
      obtain ⟨d1, d2, d3, d4⟩ := hc0
      rw [← hI.2.2.cell hgX] at d1 d2 d3 d4
      have p53 : (1048576 : Nat) ≤ 2 ^ 53 := by decide
      have cL := fun W => linkCompare_any ⟨(tr, tp), tq, tpp⟩ ⟨(mr, mp), mq, mpp⟩ W (by simp only; omega) (by simp only; omega)
      simp only at cL
      have HP : Hid (decide (0 < cmpI tq mq) = decide (mq < tq)) := cmpI_pos tq mq
      obtain ⟨r, hr⟩ : ∃ r, r = cmpI tq mq := ⟨_, rfl⟩
      rw [← hr] at cL HP
      have hrr : -1 ≤ r ∧ r ≤ 1 := by
        rw [hr]; unfold cmpI
        split
        · omega
        · split <;> omega
      have cQ : ∀ d os, Calls Try.prog 49 #[.agg #[.int .i64 tr, .int .i64 tp, .float .f64 (fq tq), .int .i64 tpp], .agg #[.int .i64 mr, .int .i64 mp, .float .f64 (fq mq), .int .i64 mpp]] (Sort.grow (redrawn wr d) os) fun e w'' => e = .returned (.int .i64 r) ∧ ∃ p : Regrown, w'' = Sort.grow (redrawn wr p.d) p.os := fun d os => Calls.regrown_of (cL _)
      have k1 := cell_regrown d1
      have k2 := cell_regrown d2
      have k3 := cell_regrown d3
      have k4 := cell_regrown d4
      have k5 := cell_regrown m0
      have k6 := cell_regrown m1
      have k7 := cell_regrown m2
      have k8 := cell_regrown m3
      have HI : Hid (MxI w wr X ⟨(mr, mp), mq, mpp⟩) := hI
      have e49 := enter49
      clear ht hr cL p53 hI hI1 hI2 hmb
      go_wp2_with fail
      refine wp_region_quiet_below (by kernel_rfl) (by kernel_rfl) ?_
      repeat (go_big_quiet_step (exact cQ _ _))
      refine wpQuiet_nil ?_
      intro w5 hw'
      have hb5 : Below wr.heap.size wr w5 := by
        obtain ⟨pq, hw''⟩ := hw'
        rw [hw'']; exact below_regrown wr pq.d pq.os
      have hgw : g < wr.heap.size := by omega
      have b1 : w5.cell? ⟨g, o + i * 4, none⟩ = some (.int .i64 tr) := by rw [hb5.cell hgw]; exact d1
      have b2 : w5.cell? ⟨g, o + i * 4 + 1, none⟩ = some (.int .i64 tp) := by rw [hb5.cell hgw]; exact d2
      have b3 : w5.cell? ⟨g, o + i * 4 + 2, none⟩ = some (.float .f64 (fq tq)) := by rw [hb5.cell hgw]; exact d3
      have b4 : w5.cell? ⟨g, o + i * 4 + 3, none⟩ = some (.int .i64 tpp) := by rw [hb5.cell hgw]; exact d4
      have hI5 : MxI w w5 X ⟨(mr, mp), mq, mpp⟩ := HI.out.below hb5 hXlt
      have n0 : w5.cell? ⟨X + 1, 0, none⟩ = some (.int .i64 mr) := cell_at hI5.2.1 rfl
      have n1 : w5.cell? ⟨X + 1, 1, none⟩ = some (.int .i64 mp) := cell_at hI5.2.1 rfl
      have n2 : w5.cell? ⟨X + 1, 2, none⟩ = some (.float .f64 (fq mq)) := cell_at hI5.2.1 rfl
      have n3 : w5.cell? ⟨X + 1, 3, none⟩ = some (.int .i64 mpp) := cell_at hI5.2.1 rfl
      have nf : ∀ j, w5.frozen? ⟨X + 1, j, none⟩ = false := fun j => frozen_of_row _ _ _ _ _ hI5.2.1
      have HI5 : Hid (MxI w w5 X ⟨(mr, mp), mq, mpp⟩) := hI5
      clear hw' hb5 k1 k2 k3 k4 k5 k6 k7 k8 cQ d1 d2 d3 d4 m0 m1 m2 m3 hI5 HI
      by_cases hgt : mq < tq
      · have hr0 : 0 < r := by have := HP.out; simpa [hgt] using this
        go_wp2_with fail
        go_roundw
        case rel =>
          refine ⟨i + 1, by omega, by omega, by go_num, ?_⟩
          have e : mxi T (i + 1) = i := by
            rw [mxi, if_pos]
            rw [← HMB.out, ← HT.out]; exact hgt
          rw [e, ← HT.out]
          exact HI5.out.set ⟨(tr, tp), tq, tpp⟩
        case measure => simp [intOf]; omega
      · have hr0 : ¬ 0 < r := by have := HP.out; simpa [hgt] using this
        go_wp2_with fail
        go_roundw
        case rel =>
          refine ⟨i + 1, by omega, by omega, by go_num, ?_⟩
          have e : mxi T (i + 1) = mxi T i := by
            rw [mxi, if_neg]
            rw [← HMB.out, ← HT.out]
            simp only
            omega
          rw [e, ← HMB.out]
          exact HI5.out
        case measure => simp [intOf]; omega
    · have hie : i = n := by omega
      subst hie
      have HI : Hid (MxI w wr X ⟨(mr, mp), mq, mpp⟩) := hI
      have r0 := cell_at hI1 (i := 0) rfl
      have r1 := cell_at hI1 (i := 1) rfl
      have r2 := cell_at hI1 (i := 2) rfl
      have r3 := cell_at hI1 (i := 3) rfl
      have rf : ∀ j, wr.frozen? ⟨X, j, none⟩ = false := fun j => frozen_of_row _ _ _ _ _ hI1
      clear hI hI1 hI2 hmb
      go_wp2_with fail
      obtain ⟨h1, h2, h3⟩ := HI.out
      have u := (((Upd.of_setCell (i := 0) (.int .i64 mr) h1).setCell (i := 1) (.int .i64 mp)).setCell (i := 2) (.float .f64 (fq mq))).setCell (i := 3) (.int .i64 mpp)
      have HB9 : Hid (Below X w ((((wr.setCell ⟨X, 0, none⟩ (.int .i64 mr)).setCell ⟨X, 1, none⟩ (.int .i64 mp)).setCell ⟨X, 2, none⟩ (.float .f64 (fq mq))).setCell ⟨X, 3, none⟩ (.int .i64 mpp))) := (((h3.setCell (p := ⟨X, 0, none⟩) (Nat.le_refl _) _).setCell (p := ⟨X, 1, none⟩) (Nat.le_refl _) _).setCell (p := ⟨X, 2, none⟩) (Nat.le_refl _) _).setCell (p := ⟨X, 3, none⟩) (Nat.le_refl _) _
      have hu := u.here
      clear u h1 h2 h3 r0 r1 r2 r3 rf m0 m1 m2 m3
      generalize ((((wr.setCell ⟨X, 0, none⟩ (.int .i64 mr)).setCell ⟨X, 1, none⟩ (.int .i64 mp)).setCell ⟨X, 2, none⟩ (.float .f64 (fq mq))).setCell ⟨X, 3, none⟩ (.int .i64 mpp)) = w9 at hu HB9 ⊢
      have q0 : w9.cell? ⟨X, 0, none⟩ = some (.int .i64 mr) := cell_at hu rfl
      have q1 : w9.cell? ⟨X, 1, none⟩ = some (.int .i64 mp) := cell_at hu rfl
      have q2 : w9.cell? ⟨X, 2, none⟩ = some (.float .f64 (fq mq)) := cell_at hu rfl
      have q3 : w9.cell? ⟨X, 3, none⟩ = some (.int .i64 mpp) := cell_at hu rfl
      clear hu
      refine bodyPost_ret (by simp [results, Try.results48, go_sem, q0, q1, q2, q3]; try rfl) rfl ?_
      refine ⟨?_, by rw [← HX.out]; exact HB9.out⟩
      rw [← HMB.out]
      rfl
end Go.Proofs.Ytilcmkiihefkkaa
