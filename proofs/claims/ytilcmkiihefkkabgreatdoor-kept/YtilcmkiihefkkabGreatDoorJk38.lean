import Derived.Deep.RegionHeld3
import Derived.Test.YtilcmkiihefkkabGreatDoorJk37
section
set_option linter.unusedVariables false
set_option linter.unusedSimpArgs false
namespace Go.Proofs.YtilcmkiihefkkabGreatDoor.Mn
open Go.RowKit Go.Shelf Go.Lib
theorem run_store_flt2 (P : Program) (w : World) (a : Addr) (m : Mode) (k : FloatKind) (b : Nat) : (store a (.float k b) m).run P w = stored P w a (.float k b) m := run_store P w a _ m rfl
attribute [local go_sem] run_store_flt2
theorem enter49 (args : Array Value) (w : World) : (callFunc 87 args).run Tryz.prog w = .ok (.enter 87 args) w := enters_of Tryz.func87 (by kernel_rfl) rfl args w
/-- a link's cells -/
def lkC (l : Lk) : Array Value := #[.int .i64 l.a.1, .int .i64 l.a.2, .float .f64 (fq l.q), .int .i64 l.p]
theorem cmpI_pos (a b : Int) : decide (0 < cmpI a b) = decide (b < a) := by
  unfold cmpI
  by_cases h1 : a < b
  · rw [if_pos h1]; have : ¬ b < a := by omega
    simp [this]
  · rw [if_neg h1]
    by_cases h2 : b < a
    · simp [h2]
    · simp [h2]
/-- MaxFunc at work -/
def MxI (w wx : World) (X : Nat) (l : Lk) : Prop := wx.heap[X]? = some (.cells #[.int .i64 0, .int .i64 0, .float .f64 0, .int .i64 0] 172 (0, 0)) ∧ wx.heap[X + 1]? = some (.cells (lkC l) 172 (0, 0)) ∧ Below X w wx
theorem MxI.below {w wx wy : World} {X : Nat} {l : Lk} (h : MxI w wx X l) {B : Nat} (hb : Below B wx wy) (hB : X + 1 < B) : MxI w wy X l :=
  ⟨(hb.block X (by omega)).trans h.1, (hb.block (X + 1) hB).trans h.2.1, h.2.2.trans (hb.mono (by omega))⟩
theorem MxI.set {w wx : World} {X : Nat} {l : Lk} (h : MxI w wx X l) (m : Lk) : MxI w ((((wx.setCell ⟨X + 1, 0, none⟩ (.int .i64 m.a.1)).setCell ⟨X + 1, 1, none⟩ (.int .i64 m.a.2)).setCell ⟨X + 1, 2, none⟩ (.float .f64 (fq m.q))).setCell ⟨X + 1, 3, none⟩ (.int .i64 m.p)) X m := by
  obtain ⟨h1, h2, h3⟩ := h
  have u := (((Upd.of_setCell (i := 0) (.int .i64 m.a.1) h2).setCell (i := 1) (.int .i64 m.a.2)).setCell (i := 2) (.float .f64 (fq m.q))).setCell (i := 3) (.int .i64 m.p)
  exact ⟨(u.other X (by omega)).trans h1, u.here, (((h3.setCell (p := ⟨X + 1, 0, none⟩) (Nat.le_succ _) _).setCell (p := ⟨X + 1, 1, none⟩) (Nat.le_succ _) _).setCell (p := ⟨X + 1, 2, none⟩) (Nat.le_succ _) _).setCell (p := ⟨X + 1, 3, none⟩) (Nat.le_succ _) _⟩
set_option maxHeartbeats 4000000 in
set_option maxRecDepth 100000 in
theorem maxFunc_any (T : List Lk) (n : Nat) (hn : T.length = n) (h0 : 0 < n) (h4 : n ≤ 1000) (base g o cap : Nat) (w : World) (hown : OwnR w base 172 4 (.slice (some ⟨g, o, none⟩) n cap) n (lcells T)) (hq : ∀ j, j < n → 0 ≤ (T.getD j Lk0).q ∧ (T.getD j Lk0).q ≤ 100000) :
    Calls Tryz.prog 86 #[.slice (some ⟨g, o, none⟩) n cap, .func (.func 87) #[] #[]] w fun e w' => e = .returned (.agg (lkC (T.getD (mxi T n) Lk0))) ∧ Below w.heap.size w w' := by
  have HN : Hid (T.length = n) := hn
  have hg : g < w.heap.size := (hown.lt rfl).2
  have HC : Hid (∀ j, j < T.length → w.cell? ⟨g, o + j * 4, none⟩ = some (.int .i64 (T.getD j Lk0).a.1) ∧ w.cell? ⟨g, o + j * 4 + 1, none⟩ = some (.int .i64 (T.getD j Lk0).a.2) ∧ w.cell? ⟨g, o + j * 4 + 2, none⟩ = some (.float .f64 (fq (T.getD j Lk0).q)) ∧ w.cell? ⟨g, o + j * 4 + 3, none⟩ = some (.int .i64 (T.getD j Lk0).p)) := hown.lks
  have HQ : Hid (∀ j, j < n → 0 ≤ (T.getD j Lk0).q ∧ (T.getD j Lk0).q ≤ 100000) := hq
  have hnI : ¬ ((n : Int) < 1) := by omega
  have h0I : (0 : Int) < n := by omega
  clear hn hown hq
  obtain ⟨t, ht⟩ : ∃ t, t = T.getD 0 Lk0 := ⟨_, rfl⟩
  have hc0 := HC.out 0 (by rw [HN.out]; exact h0)
  rw [← ht] at hc0
  simp only [Nat.zero_mul, Nat.add_zero] at hc0
  obtain ⟨d1, d2, d3, d4⟩ := hc0
  have HT0 : Hid (lkC (T.getD (mxi T 1) Lk0) = lkC t) := by
    show _ = _
    have : mxi T 1 = 0 := by
      have := mxi_lt T 1 (by omega)
      omega
    rw [this, ht]
  obtain ⟨⟨tr, tp⟩, tq, tpp⟩ := t
  simp only at d1 d2 d3 d4
  have e1 : ∀ ob, (w.alloc ob).cell? ⟨g, o, none⟩ = some (.int .i64 tr) := fun ob => (World.cell?_of_block (Below.heap_alloc _ _ g hg)).trans d1
  have e2 : ∀ ob, (w.alloc ob).cell? ⟨g, o + 1, none⟩ = some (.int .i64 tp) := fun ob => (World.cell?_of_block (Below.heap_alloc _ _ g hg)).trans d2
  have e3 : ∀ ob, (w.alloc ob).cell? ⟨g, o + 2, none⟩ = some (.float .f64 (fq tq)) := fun ob => (World.cell?_of_block (Below.heap_alloc _ _ g hg)).trans d3
  have e4 : ∀ ob, (w.alloc ob).cell? ⟨g, o + 3, none⟩ = some (.int .i64 tpp) := fun ob => (World.cell?_of_block (Below.heap_alloc _ _ g hg)).trans d4
  clear d1 d2 d3 d4 ht
  go_enter Tryz.func86, Tryz.ntmps86
  go_wp2_with fail
  obtain ⟨X, hX⟩ : ∃ X, X = w.heap.size := ⟨_, rfl⟩
  have HX : Hid (X = w.heap.size) := hX
  have HST : Hid (MxI w ((w.alloc (.cells #[.int .i64 0, .int .i64 0, .float .f64 0, .int .i64 0] 172)).alloc (.cells #[.int .i64 tr, .int .i64 tp, .float .f64 (fq tq), .int .i64 tpp] 172)) X (T.getD (mxi T 1) Lk0)) := by
    refine ⟨?_, ?_, ?_⟩
    · rw [hX]
      exact (Below.heap_alloc (w.alloc (.cells #[.int .i64 0, .int .i64 0, .float .f64 0, .int .i64 0] 172)) _ _ (by simp)).trans (heap_alloc_new w _)
    · rw [HT0.out]
      have := heap_alloc_new (w.alloc (.cells #[.int .i64 0, .int .i64 0, .float .f64 0, .int .i64 0] 172)) (.cells #[.int .i64 tr, .int .i64 tp, .float .f64 (fq tq), .int .i64 tpp] 172 (0, 0))
      have e : (w.alloc (.cells #[.int .i64 0, .int .i64 0, .float .f64 0, .int .i64 0] 172)).heap.size = w.heap.size + 1 := by simp
      rw [e] at this
      rw [hX]
      exact this
    · rw [hX]
      exact ((Below.refl _ w).alloc (Nat.le_refl _) _).alloc (by simp) _
  rw [← hX]
  have hgX : g < X := by omega
  clear e1 e2 e3 e4 HT0 hX
  go_loopw [6] (fun iv wx => ∃ i : Nat, 1 ≤ i ∧ i ≤ n ∧ iv = .int .i64 i ∧ MxI w wx X (T.getD (mxi T i) Lk0)) (fun iv _ => n - (RowKit.intOf iv).toNat)
  case atStart => exact ⟨1, by omega, h0, rfl, HST.out⟩
  case round =>
    clear HST
    obtain ⟨i, hi1, hi2, rfl, hI⟩ := hrel
    have hml := mxi_lt T i (by omega)
    obtain ⟨mb, hmb⟩ : ∃ m, m = T.getD (mxi T i) Lk0 := ⟨_, rfl⟩
    have hmq := HQ.out (mxi T i) (by omega)
    rw [← hmb] at hI hmq
    have HMB : Hid (mb = T.getD (mxi T i) Lk0) := hmb
    obtain ⟨⟨mr, mp⟩, mq, mpp⟩ := mb
    simp only at hmq
    have hI2 := hI.2.1
    have hI1 := hI.1
    have m0 : wr.cell? ⟨X + 1, 0, none⟩ = some (.int .i64 mr) := cell_at hI2 rfl
    have m1 : wr.cell? ⟨X + 1, 1, none⟩ = some (.int .i64 mp) := cell_at hI2 rfl
    have m2 : wr.cell? ⟨X + 1, 2, none⟩ = some (.float .f64 (fq mq)) := cell_at hI2 rfl
    have m3 : wr.cell? ⟨X + 1, 3, none⟩ = some (.int .i64 mpp) := cell_at hI2 rfl
    have hXlt : X + 1 < wr.heap.size := lt_of_block hI2
    by_cases hlt : i < n
    · have hltI : (i : Int) < n := by omega
      obtain ⟨t, ht⟩ : ∃ t, t = T.getD i Lk0 := ⟨_, rfl⟩
      have hc0 := HC.out i (by rw [HN.out]; exact hlt)
      have htq := HQ.out i hlt
      rw [← ht] at hc0 htq
      have HT : Hid (t = T.getD i Lk0) := ht
      obtain ⟨⟨tr, tp⟩, tq, tpp⟩ := t
      simp only at hc0 htq
      obtain ⟨d1, d2, d3, d4⟩ := hc0
      rw [← hI.2.2.cell hgX] at d1 d2 d3 d4
      have p53 : (1048576 : Nat) ≤ 2 ^ 53 := by decide
      have cL := fun W => linkCompare_any ⟨(tr, tp), tq, tpp⟩ ⟨(mr, mp), mq, mpp⟩ W (by simp only; omega) (by simp only; omega)
      simp only at cL
      have HP : Hid (decide (0 < cmpI tq mq) = decide (mq < tq)) := cmpI_pos tq mq
      obtain ⟨r, hr⟩ : ∃ r, r = cmpI tq mq := ⟨_, rfl⟩
      rw [← hr] at cL HP
      have hrr : -1 ≤ r ∧ r ≤ 1 := by
        rw [hr]; unfold cmpI
        split
        · omega
        · split <;> omega
      have cQ : ∀ d os, Calls Tryz.prog 87 #[.agg #[.int .i64 tr, .int .i64 tp, .float .f64 (fq tq), .int .i64 tpp], .agg #[.int .i64 mr, .int .i64 mp, .float .f64 (fq mq), .int .i64 mpp]] (Sort.grow (redrawn wr d) os) fun e w'' => e = .returned (.int .i64 r) ∧ ∃ p : Regrown, w'' = Sort.grow (redrawn wr p.d) p.os := fun d os => Calls.regrown_of (cL _)
      have k1 := cell_regrown d1
      have k2 := cell_regrown d2
      have k3 := cell_regrown d3
      have k4 := cell_regrown d4
      have k5 := cell_regrown m0
      have k6 := cell_regrown m1
      have k7 := cell_regrown m2
      have k8 := cell_regrown m3
      have HI : Hid (MxI w wr X ⟨(mr, mp), mq, mpp⟩) := hI
      have e49 := enter49
      clear ht hr cL p53 hI hI1 hI2 hmb
      go_wp2_with fail
      refine wp_region_quiet_below (by kernel_rfl) (by kernel_rfl) ?_
      repeat (go_big_quiet_step (exact cQ _ _))
      refine wpQuiet_nil ?_
      intro w5 hw'
      have hb5 : Below wr.heap.size wr w5 := by
        obtain ⟨pq, hw''⟩ := hw'
        rw [hw'']; exact below_regrown wr pq.d pq.os
      have hgw : g < wr.heap.size := by omega
      have b1 : w5.cell? ⟨g, o + i * 4, none⟩ = some (.int .i64 tr) := by rw [hb5.cell hgw]; exact d1
      have b2 : w5.cell? ⟨g, o + i * 4 + 1, none⟩ = some (.int .i64 tp) := by rw [hb5.cell hgw]; exact d2
      have b3 : w5.cell? ⟨g, o + i * 4 + 2, none⟩ = some (.float .f64 (fq tq)) := by rw [hb5.cell hgw]; exact d3
      have b4 : w5.cell? ⟨g, o + i * 4 + 3, none⟩ = some (.int .i64 tpp) := by rw [hb5.cell hgw]; exact d4
      have hI5 : MxI w w5 X ⟨(mr, mp), mq, mpp⟩ := HI.out.below hb5 hXlt
      have n0 : w5.cell? ⟨X + 1, 0, none⟩ = some (.int .i64 mr) := cell_at hI5.2.1 rfl
      have n1 : w5.cell? ⟨X + 1, 1, none⟩ = some (.int .i64 mp) := cell_at hI5.2.1 rfl
      have n2 : w5.cell? ⟨X + 1, 2, none⟩ = some (.float .f64 (fq mq)) := cell_at hI5.2.1 rfl
      have n3 : w5.cell? ⟨X + 1, 3, none⟩ = some (.int .i64 mpp) := cell_at hI5.2.1 rfl
      have nf : ∀ j, w5.frozen? ⟨X + 1, j, none⟩ = false := fun j => frozen_of_row _ _ _ _ _ hI5.2.1
      have HI5 : Hid (MxI w w5 X ⟨(mr, mp), mq, mpp⟩) := hI5
      clear hw' hb5 k1 k2 k3 k4 k5 k6 k7 k8 cQ d1 d2 d3 d4 m0 m1 m2 m3 hI5 HI
      by_cases hgt : mq < tq
      · have hr0 : 0 < r := by have := HP.out; simpa [hgt] using this
        go_wp2_with fail
        go_roundw
        case rel =>
          refine ⟨i + 1, by omega, by omega, by go_num, ?_⟩
          have e : mxi T (i + 1) = i := by
            rw [mxi, if_pos]
            rw [← HMB.out, ← HT.out]; exact hgt
          rw [e, ← HT.out]
          exact HI5.out.set ⟨(tr, tp), tq, tpp⟩
        case measure => simp [RowKit.intOf]; omega
      · have hr0 : ¬ 0 < r := by have := HP.out; simpa [hgt] using this
        go_wp2_with fail
        go_roundw
        case rel =>
          refine ⟨i + 1, by omega, by omega, by go_num, ?_⟩
          have e : mxi T (i + 1) = mxi T i := by
            rw [mxi, if_neg]
            rw [← HMB.out, ← HT.out]
            simp only
            omega
          rw [e, ← HMB.out]
          exact HI5.out
        case measure => simp [RowKit.intOf]; omega
    · have hie : i = n := by omega
      subst hie
      have HI : Hid (MxI w wr X ⟨(mr, mp), mq, mpp⟩) := hI
      have r0 := cell_at hI1 (i := 0) rfl
      have r1 := cell_at hI1 (i := 1) rfl
      have r2 := cell_at hI1 (i := 2) rfl
      have r3 := cell_at hI1 (i := 3) rfl
      have rf : ∀ j, wr.frozen? ⟨X, j, none⟩ = false := fun j => frozen_of_row _ _ _ _ _ hI1
      clear hI hI1 hI2 hmb
      go_wp2_with fail
      obtain ⟨h1, h2, h3⟩ := HI.out
      have u := (((Upd.of_setCell (i := 0) (.int .i64 mr) h1).setCell (i := 1) (.int .i64 mp)).setCell (i := 2) (.float .f64 (fq mq))).setCell (i := 3) (.int .i64 mpp)
      have HB9 : Hid (Below X w ((((wr.setCell ⟨X, 0, none⟩ (.int .i64 mr)).setCell ⟨X, 1, none⟩ (.int .i64 mp)).setCell ⟨X, 2, none⟩ (.float .f64 (fq mq))).setCell ⟨X, 3, none⟩ (.int .i64 mpp))) := (((h3.setCell (p := ⟨X, 0, none⟩) (Nat.le_refl _) _).setCell (p := ⟨X, 1, none⟩) (Nat.le_refl _) _).setCell (p := ⟨X, 2, none⟩) (Nat.le_refl _) _).setCell (p := ⟨X, 3, none⟩) (Nat.le_refl _) _
      have hu := u.here
      clear u h1 h2 h3 r0 r1 r2 r3 rf m0 m1 m2 m3
      generalize ((((wr.setCell ⟨X, 0, none⟩ (.int .i64 mr)).setCell ⟨X, 1, none⟩ (.int .i64 mp)).setCell ⟨X, 2, none⟩ (.float .f64 (fq mq))).setCell ⟨X, 3, none⟩ (.int .i64 mpp)) = w9 at hu HB9 ⊢
      have q0 : w9.cell? ⟨X, 0, none⟩ = some (.int .i64 mr) := cell_at hu rfl
      have q1 : w9.cell? ⟨X, 1, none⟩ = some (.int .i64 mp) := cell_at hu rfl
      have q2 : w9.cell? ⟨X, 2, none⟩ = some (.float .f64 (fq mq)) := cell_at hu rfl
      have q3 : w9.cell? ⟨X, 3, none⟩ = some (.int .i64 mpp) := cell_at hu rfl
      clear hu
      refine bodyPost_ret (by simp [results, Tryz.results86, go_sem, q0, q1, q2, q3]; try rfl) rfl ?_
      refine ⟨?_, by rw [← HX.out]; exact HB9.out⟩
      rw [← HMB.out]
      rfl
end Go.Proofs.YtilcmkiihefkkabGreatDoor.Mn
end
section
set_option linter.unusedVariables false
set_option linter.unusedSimpArgs false
namespace Go.Proofs.YtilcmkiihefkkabGreatDoor.Mn
open Go.RowKit Go.Shelf Go.Lib Go.Sort
theorem run_store_flt3 (P : Program) (w : World) (a : Addr) (m : Mode) (k : FloatKind) (b : Nat) : (store a (.float k b) m).run P w = stored P w a (.float k b) m := run_store P w a _ m rfl
attribute [local go_sem] run_store_flt3
theorem reverse_any (C : List (Int × Int)) (n : Nat) (hn : C.length = n) (h2 : n ≤ 1000) (base g o cap : Nat) (w : World) (hown : OwnR w base 140 2 (.slice (some ⟨g, o, none⟩) n cap) n (acells C)) :
    Calls Tryz.prog 124 #[.slice (some ⟨g, o, none⟩) n cap] w fun e w' => e = .returned (.tuple #[]) ∧ OwnR w' base 140 2 (.slice (some ⟨g, o, none⟩) n cap) n (acells C.reverse) ∧ (∀ j, j < w.heap.size → j ≠ g → w'.heap[j]? = w.heap[j]?) ∧ w.heap.size ≤ w'.heap.size ∧ w'.os = w.os ∧ w'.tape = w.tape ∧ w'.output = w.output := by
  have hH := hown.holdsA hn
  have hcon := AnyQ.slices_Reverse Tryz.reverseA 2 Tryz.isAgg140 Tryz.sizeOf140 encA (fun _ => rfl) (fun x v hv => by simp [encA] at hv; rcases hv with rfl | rfl <;> rfl) g o cap C.toArray w hH.1 (by simp; omega)
  change Calls Tryz.prog 124 _ _ _ at hcon
  have hsz : C.toArray.size = n := by simpa using hn
  rw [hsz] at hcon
  refine hcon.mono ?_
  rintro e w' ⟨rfl, m, rfl⟩
  have e1 : C.toArray.reverse = C.reverse.toArray := by simp
  have e2 : putRowK encA 2 (Sort.ahead w m) g o C.reverse.toArray = sortWorldK encA 2 w g o m C.reverse.toArray #[] := by
    unfold sortWorldK; rw [grow_empty]
  rw [e1, e2]
  exact ⟨rfl, hown.sortedA hn (by rw [List.length_reverse]; exact hn)⟩
/-- the predecessor that stands in the box -/
def predOf (w : World) (X : Nat) : Nat := match w.cell? ⟨X, 3, none⟩ with
  | some (.int _ n) => (n + 1).toNat
  | _ => 0
set_option maxHeartbeats 4000000 in
set_option maxRecDepth 100000 in
theorem chain_any (T : List Lk) (n : Nat) (hn : T.length = n) (h4 : n ≤ 1000) (base Tb g o cap mb : Nat) (kv : Value) (w : World) (hmb : mb < n)
    (hB : w.heap[Tb]? = some (.cells #[kv, .slice (some ⟨g, o, none⟩) n cap] 167 (0, 0))) (hown : OwnR w base 172 4 (.slice (some ⟨g, o, none⟩) n cap) n (lcells T)) (hp : ∀ j, j < n → -1 ≤ (T.getD j Lk0).p ∧ (T.getD j Lk0).p < j) (t : Lk) (ht : t = T.getD mb Lk0) :
    Calls Tryz.prog 88 #[.pointer (some ⟨Tb, 0, none⟩), .agg #[.int .i64 t.a.1, .int .i64 t.a.2, .float .f64 (fq t.q), .int .i64 t.p]] w fun e w' => ∃ v, e = .returned v ∧ OwnR w' w.heap.size 140 2 v (bk T n mb).reverse.length (acells (bk T n mb).reverse) ∧ Below w.heap.size w w' := by
  obtain ⟨i0, hi2, hz0, hz1, hz2⟩ := info_parts Tryz.info140
  have HN : Hid (T.length = n) := hn
  have hltB := lt_of_block hB
  have hg : g < w.heap.size := (hown.lt rfl).2
  have HB : Hid (w.heap[Tb]? = some (.cells #[kv, .slice (some ⟨g, o, none⟩) n cap] 167 (0, 0))) := hB
  have HC : Hid (∀ j, j < T.length → w.cell? ⟨g, o + j * 4, none⟩ = some (.int .i64 (T.getD j Lk0).a.1) ∧ w.cell? ⟨g, o + j * 4 + 1, none⟩ = some (.int .i64 (T.getD j Lk0).a.2) ∧ w.cell? ⟨g, o + j * 4 + 2, none⟩ = some (.float .f64 (fq (T.getD j Lk0).q)) ∧ w.cell? ⟨g, o + j * 4 + 3, none⟩ = some (.int .i64 (T.getD j Lk0).p)) := hown.lks
  have HP : Hid (∀ j, j < n → -1 ≤ (T.getD j Lk0).p ∧ (T.getD j Lk0).p < j) := hp
  have HF : Hid (bk T n mb = t.a :: bk T (t.p + 1).toNat t.p) := by
    show _ = _
    have hpm := hp mb hmb
    rw [bk_more T n (fun i hi => (hp i hi).2) (mb + 1) mb (by omega) (by omega) n (by omega)]
    show (if (mb : Int) < 0 then [] else _) = _
    rw [if_neg (by omega), Int.toNat_natCast, ← ht]
    rw [← ht] at hpm
    congr 1
    exact bk_more T n (fun i hi => (hp i hi).2) (t.p + 1).toNat t.p (by omega) (by omega) mb (by omega)
  obtain ⟨F, hF⟩ : ∃ F, F = bk T n mb := ⟨_, rfl⟩
  rw [← hF] at HF ⊢
  have htp := hp mb hmb
  rw [← ht] at htp
  clear hn hB hown hp ht hF
  obtain ⟨⟨tr, tp⟩, tq, tpp⟩ := t
  simp only at HF htp ⊢
  go_enter Tryz.func88, Tryz.ntmps88
  go_wp2_with fail
  obtain ⟨X, hX⟩ : ∃ X, X = w.heap.size := ⟨_, rfl⟩
  have HX : Hid (X = w.heap.size) := hX
  have HST : Hid (((w.alloc (.cells #[.int .i64 tr, .int .i64 tp, .float .f64 (fq tq), .int .i64 tpp] 172)).alloc (.cells #[.int .i64 tr, .int .i64 tp] 140)).heap[X]? = some (.cells #[.int .i64 tr, .int .i64 tp, .float .f64 (fq tq), .int .i64 tpp] 172 (0, 0)) ∧ OwnR ((w.alloc (.cells #[.int .i64 tr, .int .i64 tp, .float .f64 (fq tq), .int .i64 tpp] 172)).alloc (.cells #[.int .i64 tr, .int .i64 tp] 140)) X 140 2 (.slice (some ⟨X + 1, 0, none⟩) 1 1) 1 (acells [(tr, tp)]) ∧ Below X w ((w.alloc (.cells #[.int .i64 tr, .int .i64 tp, .float .f64 (fq tq), .int .i64 tpp] 172)).alloc (.cells #[.int .i64 tr, .int .i64 tp] 140))) := by
    refine ⟨?_, ?_, ?_⟩
    · rw [hX]
      exact (Below.heap_alloc _ _ _ (by simp)).trans (heap_alloc_new w _)
    · have h := World.ownsRow_lit (base := X) (e := 140) (size := 2) (w.alloc (.cells #[.int .i64 tr, .int .i64 tp, .float .f64 (fq tq), .int .i64 tpp] 172)) #[.int .i64 tr, .int .i64 tp] 1 (by simp; omega) (by unfold maxLen; omega) rfl
      have e : (w.alloc (.cells #[.int .i64 tr, .int .i64 tp, .float .f64 (fq tq), .int .i64 tpp] 172)).heap.size = X + 1 := by simp; omega
      rw [e] at h
      exact OwnR.of_ownsRow h (Nat.le_refl _)
    · rw [hX]
      exact ((Below.refl _ w).alloc (Nat.le_refl _) _).alloc (by simp) _
  rw [← hX]
  rw [← hX] at hg hltB
  clear hX
  go_loopw [5] (fun cv wx => ∃ (p : Nat) (q : Int) (a : Int × Int) (pp : Int) (C : List (Int × Int)), p < n ∧ -1 ≤ pp ∧ pp < p ∧ wx.heap[X]? = some (.cells #[.int .i64 a.1, .int .i64 a.2, .float .f64 (fq q), .int .i64 pp] 172 (0, 0)) ∧ OwnR wx X 140 2 cv C.length (acells C) ∧ 0 < C.length ∧ C.length + p ≤ n ∧ Hid (C ++ bk T (pp + 1).toNat pp = F) ∧ Below X w wx) (fun _ wx => predOf wx X)
  case atStart =>
    refine ⟨mb, tq, (tr, tp), tpp, [(tr, tp)], hmb, htp.1, htp.2, HST.out.1, HST.out.2.1, by simp, by simp; omega, ?_, HST.out.2.2⟩
    show _ = _
    rw [HF.out]; rfl
  case round =>
    clear HST HF
    obtain ⟨p, q, ⟨ar, ap⟩, pp, C, hpn, hpp1, hpp2, hb, hownC, hC0, hCn, HFC, hbel⟩ := hrel
    simp only at hb
    have hXl := lt_of_block hb
    obtain ⟨ao, cc, hv⟩ := hownC.shape
    subst hv
    have x0 : wr.cell? ⟨X, 0, none⟩ = some (.int .i64 ar) := cell_at hb rfl
    have x1 : wr.cell? ⟨X, 1, none⟩ = some (.int .i64 ap) := cell_at hb rfl
    have x2 : wr.cell? ⟨X, 2, none⟩ = some (.float .f64 (fq q)) := cell_at hb rfl
    have x3 : wr.cell? ⟨X, 3, none⟩ = some (.int .i64 pp) := cell_at hb rfl
    have xf : ∀ j, wr.frozen? ⟨X, j, none⟩ = false := fun j => frozen_of_row _ _ _ _ _ hb
    have t1 : wr.cell? ⟨Tb, 1, none⟩ = some (.slice (some ⟨g, o, none⟩) n cap) := cell_at ((hbel.block Tb hltB).trans HB.out) rfl
    have HPO : Hid (predOf wr X = (pp + 1).toNat) := by
      show _ = _
      unfold predOf; rw [x3]
    have HBEL : Hid (Below X w wr) := hbel
    have HOC : Hid (OwnR wr X 140 2 (.slice ao C.length cc) C.length (acells C)) := hownC
    have HBX : Hid (wr.heap[X]? = some (.cells #[.int .i64 ar, .int .i64 ap, .float .f64 (fq q), .int .i64 pp] 172 (0, 0))) := hb
    clear hb hownC
    by_cases hend : pp = -1
    · subst hend
      obtain ⟨g1, o1, hao, hg1⟩ : ∃ g1 o1, ao = some ⟨g1, o1, none⟩ ∧ X ≤ g1 := by
        rcases HOC.out.2 with ⟨_, h⟩ | ⟨g', o', cap', cur, he, h1, h2, _⟩
        · omega
        · simp only [Value.slice.injEq] at he
          exact ⟨g', o', he.1, h1⟩
      subst hao
      have HCF : Hid (C = F) := by
        have := HFC.out
        show C = F
        simpa [bk] using this
      go_wp2_with fail
      refine (reverse_any C C.length rfl (by omega) X g1 o1 cc wr HOC.out).mono ?_
      rintro e w' ⟨rfl, r1, r2, r3, r4, r5, r6⟩
      have HR1 : Hid (OwnR w' X 140 2 (.slice (some ⟨g1, o1, none⟩) C.length cc) C.length (acells C.reverse)) := r1
      have HBW : Hid (Below X w w') := ⟨r4.trans HBEL.out.os, r5.trans HBEL.out.tape, r6.trans HBEL.out.output, Nat.le_trans HBEL.out.size r3, fun j hj => (r2 j (by omega) (by omega)).trans (HBEL.out.block j hj)⟩
      clear r1 r2 r3 r4 r5 r6
      go_wp2_with fail
      go_ret
      refine ⟨_, rfl, ?_, by rw [← HX.out]; exact HBW.out⟩
      rw [← HX.out, ← HCF.out, List.length_reverse]
      exact HR1.out
    · obtain ⟨r, hr⟩ : ∃ r : Nat, pp = r := ⟨pp.toNat, by omega⟩
      subst hr
      have hrn : (r : Int) < n := by omega
      obtain ⟨d1, d2, d3, d4⟩ := HC.out r (by rw [HN.out]; omega)
      have hpr := HP.out r (by omega)
      rw [← hbel.cell hg] at d1 d2 d3 d4
      obtain ⟨l, hl⟩ : ∃ l, l = T.getD r Lk0 := ⟨_, rfl⟩
      rw [← hl] at d1 d2 d3 d4 hpr
      have HL : Hid (T.getD r Lk0 = l) := hl.symm
      obtain ⟨⟨lr, lp⟩, lq, lpp⟩ := l
      simp only at d1 d2 d3 d4 hpr
      clear hbel hl
      go_wp2_with fail
      go_region
      have u := ((((Upd.of_setCell (i := 0) (.int .i64 lr) HBX.out).setCell (i := 1) (.int .i64 lp)).setCell (i := 2) (.float .f64 (fq lq))).setCell (i := 3) (.int .i64 lpp)).drew
      have HB4 : Hid (Below X w ((((wr.setCell ⟨X, 0, none⟩ (.int .i64 lr)).setCell ⟨X, 1, none⟩ (.int .i64 lp)).setCell ⟨X, 2, none⟩ (.float .f64 (fq lq))).setCell ⟨X, 3, none⟩ (.int .i64 lpp)).drew) := ((((HBEL.out.setCell (p := ⟨X, 0, none⟩) (Nat.le_refl _) _).setCell (p := ⟨X, 1, none⟩) (Nat.le_refl _) _).setCell (p := ⟨X, 2, none⟩) (Nat.le_refl _) _).setCell (p := ⟨X, 3, none⟩) (Nat.le_refl _) _).drew
      have HO4 : Hid (OwnR ((((wr.setCell ⟨X, 0, none⟩ (.int .i64 lr)).setCell ⟨X, 1, none⟩ (.int .i64 lp)).setCell ⟨X, 2, none⟩ (.float .f64 (fq lq))).setCell ⟨X, 3, none⟩ (.int .i64 lpp)).drew X 140 2 (.slice ao C.length cc) C.length (acells C)) := HOC.out.other (fun g2 hg2 _ => u.other g2 (fun e => by subst e; exact HOC.out.tag (by decide) HBX.out hg2))
      have hX4 := u.here
      clear u x0 x1 x2 x3 xf t1 d1 d2 d3 d4
      generalize ((((wr.setCell ⟨X, 0, none⟩ (.int .i64 lr)).setCell ⟨X, 1, none⟩ (.int .i64 lp)).setCell ⟨X, 2, none⟩ (.float .f64 (fq lq))).setCell ⟨X, 3, none⟩ (.int .i64 lpp)).drew = w4 at hX4 HB4 HO4 ⊢
      have y0 : w4.cell? ⟨X, 0, none⟩ = some (.int .i64 lr) := cell_at hX4 rfl
      have y1 : w4.cell? ⟨X, 1, none⟩ = some (.int .i64 lp) := cell_at hX4 rfl
      have HX4 : Hid (w4.heap[X]? = some (.cells #[.int .i64 lr, .int .i64 lp, .float .f64 (fq lq), .int .i64 lpp] 172 (0, 0))) := hX4
      have hX4l := lt_of_block hX4
      clear hX4
      clear HOC
      go_wp2_with (at_builtin; go_must (refine wpList_own _ rfl (.tmp 20) (.tmp 23) 110 rfl 140 i0 _ 2 16 Tryz.underlying110 hi2 hz0 hz1 hz2 rfl (by decide) X (.slice ao C.length cc) C.length (acells C) rfl (by exact HO4.out.other (fun g _ hlt => Below.heap_alloc _ _ _ hlt)) ⟨w4.heap.size, 0, none⟩ 1 [.int .i64 lr, .int .i64 lp] rfl rfl (by exact abox_cells _ _ _ _ _ rfl) (an_oneCell _ _) (by unfold maxLen; omega) (by omega) (by simp; omega) ?_; intro g' o' cap' w5 hown5 hf5))
      go_roundw
      case rel =>
        have hX5 : w5.heap[X]? = some (.cells #[.int .i64 lr, .int .i64 lp, .float .f64 (fq lq), .int .i64 lpp] 172 (0, 0)) := by
          rw [hf5.other X (by simp; omega) (HO4.out.tag (by decide) HX4.out), Below.heap_alloc _ _ _ hX4l]; exact HX4.out
        refine ⟨r, lq, (lr, lp), lpp, C ++ [(lr, lp)], by omega, hpr.1, hpr.2, hX5, ?_, by simp, by simp only [List.length_append, List.length_singleton]; omega, ?_, ?_⟩
        · rw [List.length_append, acells_append]; exact hown5
        · show _ = _
          rw [← HFC.out, List.append_assoc]
          congr 1
          have e1 : ((r : Int) + 1).toNat = r + 1 := by omega
          rw [e1]
          show _ = (if (r : Int) < 0 then [] else _)
          rw [if_neg (by omega), Int.toNat_natCast, HL.out]
          show (lr, lp) :: bk T (lpp + 1).toNat lpp = (lr, lp) :: bk T r lpp
          congr 1
          exact (bk_more T n (fun i hi => (HP.out i hi).2) (lpp + 1).toNat lpp (by omega) (by omega) r (by omega)).symm
        · refine ⟨hf5.os.trans HB4.out.os, hf5.tape.trans HB4.out.tape, hf5.output.trans HB4.out.output, ?_, fun j hj => ?_⟩
          · have := hf5.size
            simp at this
            have := HB4.out.size
            omega
          · rw [hf5.other j (by simp; omega) (fun he => by have := (HO4.out.lt he).1; omega), Below.heap_alloc _ _ _ (by omega)]
            exact HB4.out.block j hj
      case measure =>
        have hX5 : w5.heap[X]? = some (.cells #[.int .i64 lr, .int .i64 lp, .float .f64 (fq lq), .int .i64 lpp] 172 (0, 0)) := by
          rw [hf5.other X (by simp; omega) (HO4.out.tag (by decide) HX4.out), Below.heap_alloc _ _ _ hX4l]; exact HX4.out
        have e5 : predOf w5 X = (lpp + 1).toNat := by
          unfold predOf; rw [cell_at (v := .int .i64 lpp) hX5 rfl]
        rw [e5, HPO.out]
        omega
end Go.Proofs.YtilcmkiihefkkabGreatDoor.Mn
end
section
set_option linter.unusedVariables false
set_option linter.unusedSimpArgs false
namespace Go.Proofs.YtilcmkiihefkkabGreatDoor.Mn
open Go.RowKit Go.Shelf Go.Lib
/-- anchors that came in, or were made: where they lie -/
def RdA (w : World) (ao : Option Addr) (L : List (Int × Int)) : Prop := L = [] ∨ ∃ g o, ao = some ⟨g, o, none⟩ ∧ g < w.heap.size ∧ ∀ j (hj : j < L.length), w.cell? ⟨g, o + j * 2, none⟩ = some (.int .i64 L[j].1) ∧ w.cell? ⟨g, o + j * 2 + 1, none⟩ = some (.int .i64 L[j].2)
/-- the error of Chain -/
def errC (L : List (Int × Int)) (k : Int) : Int := if k < 1 ∨ 12 < k then 6 else if 400 < L.length then 1 else if L.length = 0 then 7 else if L.any outB then 2 else 0
theorem any_outB (L : List (Int × Int)) : L.any outB = true ↔ ¬ ∀ x ∈ L, okA x := by
  rw [List.any_eq_true]
  constructor
  · rintro ⟨x, hx, h⟩ hall
    exact (outB_iff x).1 h (hall x hx)
  · intro h
    apply Classical.byContradiction
    intro hn
    refine h (fun x hx => ?_)
    rw [← outB_not]
    cases hb : outB x with
    | false => rfl
    | true => exact absurd ⟨x, hx, hb⟩ hn
theorem contains_any (L : List (Int × Int)) (n : Nat) (hn : L.length = n) (h0 : 0 < n) (h4 : n ≤ 400) (g o cap : Nat) (w : World) (hg : g < w.heap.size)
    (hA : ∀ j (hj : j < L.length), w.cell? ⟨g, o + j * 2, none⟩ = some (.int .i64 L[j].1) ∧ w.cell? ⟨g, o + j * 2 + 1, none⟩ = some (.int .i64 L[j].2)) :
    Calls Tryz.prog 117 #[.slice (some ⟨g, o, none⟩) n cap, .func (.func 118) #[] #[]] w fun e w' => e = .returned (.bool (L.any outB)) ∧ Below w.heap.size w w' := by
  have eg : ∀ args w, (callFunc 118 args).run Tryz.prog w = .ok (.enter 118 args) w := enters_of Tryz.func118 (by kernel_rfl) rfl
  have hcon := AnyQ.slices_ContainsFunc Tryz.containsA 2 Tryz.isAgg140 Tryz.sizeOf140 encA (fun _ => rfl) outB 118 #[] eg g o n cap L w
    (fun W x hb => (outOfBounds_any x W).mono fun _ _ ⟨he, hw⟩ => ⟨he, hb.trans (hw.mono hb.size)⟩) (by omega) (by omega) hg
    (fun j hj i v hv => by
      have e : L[j]! = L[j] := by simp [hj]
      rw [e] at hv
      have := hA j hj
      match i, hv with
      | 0, hv =>
        have h : Value.int .i64 L[j].1 = v := by simpa [encA] using hv
        rw [← h]; exact this.1
      | 1, hv =>
        have h : Value.int .i64 L[j].2 = v := by simpa [encA] using hv
        rw [← h]; exact this.2
      | i + 2, hv => simp [encA] at hv)
  change Calls Tryz.prog 117 _ _ _ at hcon
  rw [List.take_of_length_le (by omega)] at hcon
  exact hcon
set_option maxHeartbeats 1000000 in
theorem chainError_any (L : List (Int × Int)) (n : Nat) (hn : L.length = n) (ao : Option Addr) (cap : Nat) (k : Int) (w : World) (hA : RdA w ao L) :
    Calls Tryz.prog 83 #[.slice ao n cap, .int .i64 k] w fun e w' => e = .returned (.int .i64 (errC L k)) ∧ Below w.heap.size w w' := by
  by_cases hk1 : k < 1
  · have e : errC L k = 6 := by unfold errC; rw [if_pos (Or.inl hk1)]
    rw [e]
    go_enter Tryz.func83, Tryz.ntmps83
    go_wp2_with fail
    go_ret
    exact ⟨rfl, Below.refl _ _⟩
  · by_cases hk2 : 12 < k
    · have e : errC L k = 6 := by unfold errC; rw [if_pos (Or.inr hk2)]
      rw [e]
      go_enter Tryz.func83, Tryz.ntmps83
      go_wp2_with fail
      go_ret
      exact ⟨rfl, Below.refl _ _⟩
    · by_cases h4 : 400 < n
      · have e : errC L k = 1 := by unfold errC; rw [if_neg (by omega), if_pos (by omega)]
        have h4I : (400 : Int) < n := by omega
        rw [e]
        go_enter Tryz.func83, Tryz.ntmps83
        go_wp2_with fail
        go_ret
        exact ⟨rfl, Below.refl _ _⟩
      · have h4I : ¬ (400 : Int) < n := by omega
        by_cases h0 : n = 0
        · subst h0
          have e : errC L k = 7 := by unfold errC; rw [if_neg (by omega), if_neg (by omega), if_pos (by omega)]
          rw [e]
          go_enter Tryz.func83, Tryz.ntmps83
          go_wp2_with fail
          go_ret
          exact ⟨rfl, Below.refl _ _⟩
        · have h0I : ¬ ((n : Int) = 0) := by omega
          rcases hA with hA | ⟨g, o, rfl, hg, hA⟩
          · rw [hA] at hn; simp at hn; omega
          · have cC := contains_any L n hn (by omega) (by omega) g o cap w hg hA
            have e : errC L k = if L.any outB then 2 else 0 := by unfold errC; rw [if_neg (by omega), if_neg (by omega), if_neg (by omega)]
            rw [e]
            clear e hA
            cases hb : L.any outB with
            | true =>
              rw [hb] at cC
              clear hb hn
              simp only [if_true]
              go_enter Tryz.func83, Tryz.ntmps83
              go_wp2_with (go_at_call 117; refine cC.mono ?_; rintro e w' ⟨rfl, hbw⟩)
              go_ret
              exact ⟨rfl, hbw⟩
            | false =>
              rw [hb] at cC
              clear hb hn
              simp only [if_false, Bool.false_eq_true]
              go_enter Tryz.func83, Tryz.ntmps83
              go_wp2_with (go_at_call 117; refine cC.mono ?_; rintro e w' ⟨rfl, hbw⟩)
              go_ret
              exact ⟨rfl, hbw⟩
set_option maxHeartbeats 1000000 in
theorem achain_err (L : List (Int × Int)) (n : Nat) (hn : L.length = n) (ao : Option Addr) (cap : Nat) (k : Int) (w : World) (hA : RdA w ao L) (he : errC L k ≠ 0) :
    Calls Tryz.prog 57 #[.slice ao n cap, .int .i64 k] w fun e w' => e = badC (errC L k) ∧ Below w.heap.size w w' := by
  have cC := chainError_any L n hn ao cap k w hA
  generalize errC L k = r at cC he ⊢
  clear hn hA
  go_enter Tryz.func57, Tryz.ntmps57
  go_wp2_with (go_at_call 83; refine cC.mono ?_; rintro e w' ⟨rfl, hbw⟩)
  go_ret3
  exact ⟨rfl, hbw⟩
end Go.Proofs.YtilcmkiihefkkabGreatDoor.Mn
end
section
set_option linter.unusedVariables false
set_option linter.unusedSimpArgs false
namespace Go.Proofs.YtilcmkiihefkkabGreatDoor.Mn
open Go.RowKit Go.Shelf Go.Lib
theorem run_store_flt4 (P : Program) (w : World) (a : Addr) (m : Mode) (k : FloatKind) (b : Nat) : (store a (.float k b) m).run P w = stored P w a (.float k b) m := run_store P w a _ m rfl
attribute [local go_sem] run_store_flt4
theorem OwnR.base {w : World} {b b' : Nat} {e : TypeId} {size : Nat} {v : Value} {n : Nat} {xs : List Value} (h : OwnR w b e size v n xs) (hb : b' ≤ b) : OwnR w b' e size v n xs := by
  obtain ⟨h0, h⟩ := h
  refine ⟨h0, ?_⟩
  rcases h with h | ⟨g, o, cap, cur, h1, h2, h3⟩
  · exact Or.inl h
  · exact Or.inr ⟨g, o, cap, cur, h1, Nat.le_trans hb h2, h3⟩
set_option maxHeartbeats 4000000 in
set_option maxRecDepth 100000 in
theorem achain_ok (L : List (Int × Int)) (n : Nat) (hn : L.length = n) (ao : Option Addr) (cap : Nat) (k : Int) (w : World) (hA : RdA w ao L) (he : errC L k = 0) :
    Calls Tryz.prog 57 #[.slice ao n cap, .int .i64 k] w fun e w' => ∃ v, e = .returned (.tuple #[v, .float .f64 (fq (chQ k L)), .int .i64 0]) ∧ Below w.heap.size w w' ∧ OwnR w' w.heap.size 140 2 v (chL k L).length (acells (chL k L)) := by
  have cC := chainError_any L n hn ao cap k w hA
  rw [he] at cC
  obtain ⟨hk1, hk2, h4, h0, hok⟩ : 1 ≤ k ∧ k ≤ 12 ∧ n ≤ 400 ∧ 0 < n ∧ ∀ x ∈ L, okA x := by
    unfold errC at he
    by_cases hk : k < 1 ∨ 12 < k
    · rw [if_pos hk] at he; omega
    · rw [if_neg hk] at he
      by_cases h4 : 400 < L.length
      · rw [if_pos h4] at he; omega
      · rw [if_neg h4] at he
        by_cases h0 : L.length = 0
        · rw [if_pos h0] at he; omega
        · rw [if_neg h0] at he
          by_cases hb : L.any outB = true
          · rw [if_pos hb] at he; omega
          · refine ⟨by omega, by omega, by omega, by omega, ?_⟩
            apply Classical.byContradiction
            intro hx
            exact hb ((any_outB L).2 hx)
  rcases hA with hA | ⟨g, o, rfl, hg, hA⟩
  · rw [hA] at hn; simp at hn; omega
  · have HA : Hid (∀ j (hj : j < L.length), w.cell? ⟨g, o + j * 2, none⟩ = some (.int .i64 L[j].1) ∧ w.cell? ⟨g, o + j * 2 + 1, none⟩ = some (.int .i64 L[j].2)) := hA
    have HOK : Hid (∀ x ∈ L, okA x) := hok
    have HN : Hid (L.length = n) := hn
    have hm0 : 0 < (canon L).length := canon_ne L (fun h => by rw [h] at hn; simp at hn; omega)
    have hm4 : (canon L).length ≤ 400 := Nat.le_trans (canon_length L) (by omega)
    have HQ : Hid (chQ k L = ((tb k (canon L) (canon L).length).getD (mxi (tb k (canon L) (canon L).length) (canon L).length) Lk0).q ∧ chL k L = (bk (tb k (canon L) (canon L).length) (canon L).length (mxi (tb k (canon L) (canon L).length) (canon L).length)).reverse) := ⟨rfl, rfl⟩
    clear hA hok hn he
    go_enter Tryz.func57, Tryz.ntmps57
    go_wp2_with (go_at_call 83; refine cC.mono ?_; rintro e w1 ⟨rfl, hb1⟩)
    have hs1 := hb1.size
    have hgw : g < (w1.alloc (.cells #[.int .i64 k, .slice none 0 0] 167)).heap.size := by simp; omega
    have hB1' : Below w1.heap.size w1 (w1.alloc (.cells #[.int .i64 k, .slice none 0 0] 167)) := (Below.refl _ _).alloc (Nat.le_refl _) _
    have hEA := eachAnchor_any L n HN.out w1.heap.size g o cap k (w1.alloc (.cells #[.int .i64 k, .slice none 0 0] 167)) hk1 hk2 h0 h4 hgw (by omega) (fun j hj => by
      have := HA.out j hj
      rw [hB1'.cell (show g < _ by omega), hB1'.cell (show g < _ by omega), hb1.cell hg, hb1.cell hg]
      exact this) HOK.out (heap_alloc_new w1 _)
    refine hEA.mono ?_
    rintro e w3 ⟨rfl, v, ht1, ht2, ht3⟩
    have HBW : Hid (Below w.heap.size w w3) := by
      have hsz := ht3.size
      simp at hsz
      refine ⟨ht3.os.trans hb1.os, ht3.tape.trans hb1.tape, ht3.output.trans hb1.output, by omega, fun j hj => ?_⟩
      rw [ht3.other j (by simp; omega) (by omega), Below.heap_alloc _ _ _ (by omega)]
      exact hb1.block j hj
    clear hEA hB1' hgw cC
    obtain ⟨S, hS⟩ : ∃ S, S = canon L := ⟨_, rfl⟩
    rw [← hS] at hm0 hm4 HQ ht2
    obtain ⟨m, hm⟩ : ∃ m, m = S.length := ⟨_, rfl⟩
    rw [← hm] at hm0 hm4 HQ ht2
    obtain ⟨Tb, hTb⟩ : ∃ T, T = w1.heap.size := ⟨_, rfl⟩
    rw [← hTb] at ht1 ⊢
    have hTB : ∀ j, j < m → 0 ≤ ((tb k S m).getD j Lk0).q ∧ ((tb k S m).getD j Lk0).q ≤ 100000 := fun j hj => by
      have hb := tb_bounds k (by omega) S m j hj
      refine ⟨by omega, ?_⟩
      have h1 := hb.2.1
      have : 4 * k * ((j : Int) + 1) ≤ 48 * 401 := Int.mul_le_mul (by omega) (by omega) (by omega) (by omega)
      omega
    have hTP : ∀ j, j < m → -1 ≤ ((tb k S m).getD j Lk0).p ∧ ((tb k S m).getD j Lk0).p < j := fun j hj => (tb_bounds k (by omega) S m j hj).2.2
    have hTl := tb_length k S m
    obtain ⟨T, hT⟩ : ∃ T, T = tb k S m := ⟨_, rfl⟩
    rw [← hT] at HQ ht2 hTB hTP hTl
    obtain ⟨g2, o2, c2, hv, hg2⟩ : ∃ g2 o2 c2, v = .slice (some ⟨g2, o2, none⟩) m c2 ∧ w3.heap[g2]? ≠ none := by
      rcases ht2.2 with ⟨_, h⟩ | ⟨g', o', cap', cur, he, h1, h2, _⟩
      · omega
      · exact ⟨g', o', cap', he, by rw [h2]; simp⟩
    subst hv
    have tc : w3.cell? ⟨Tb, 1, none⟩ = some (.slice (some ⟨g2, o2, none⟩) m c2) := cell_at ht1 rfl
    have hml := mxi_lt T m hm0
    obtain ⟨mb, hmb⟩ : ∃ x, x = mxi T m := ⟨_, rfl⟩
    have cM := maxFunc_any T m hTl hm0 (by omega) _ g2 o2 c2 w3 ht2 hTB
    rw [← hmb] at cM hml HQ
    obtain ⟨t, ht⟩ : ∃ t, t = T.getD mb Lk0 := ⟨_, rfl⟩
    rw [← ht] at cM HQ
    have hltT := lt_of_block ht1
    have cCh := fun (w4 : World) (hb4 : Below w3.heap.size w3 w4) => chain_any T m hTl (by omega) _ Tb g2 o2 c2 mb (.int .i64 k) w4 hml ((hb4.block Tb hltT).trans ht1) (ht2.other (fun g' _ hlt => hb4.block g' hlt)) hTP t ht
    obtain ⟨⟨tr, tp⟩, tq, tpp⟩ := t
    simp only at HQ cCh
    have cM' : Calls Tryz.prog 86 #[.slice (some ⟨g2, o2, none⟩) m c2, .func (.func 87) #[] #[]] w3 fun e w' => e = .returned (.agg #[.int .i64 tr, .int .i64 tp, .float .f64 (fq tq), .int .i64 tpp]) ∧ Below w3.heap.size w3 w' := cM
    clear cM hT hS hm ht1 ht2 ht3 hg2 hTB hTP hTl ht hmb hTb
    go_wp2_with (go_at_call 86; refine cM'.mono ?_; rintro e w4 ⟨rfl, hb4⟩)
    have hbb := heap_alloc_new w4 (.cells #[.int .i64 tr, .int .i64 tp, .float .f64 (fq tq), .int .i64 tpp] 172 (0, 0))
    have hb5 : Below w3.heap.size w3 (w4.alloc (.cells #[.int .i64 tr, .int .i64 tp, .float .f64 (fq tq), .int .i64 tpp] 172)) := hb4.alloc hb4.size _
    obtain ⟨Bb, hBb⟩ : ∃ b, b = w4.heap.size := ⟨_, rfl⟩
    rw [← hBb] at hbb ⊢
    clear hb4 cM' hBb tc
    generalize w4.alloc (.cells #[.int .i64 tr, .int .i64 tp, .float .f64 (fq tq), .int .i64 tpp] 172) = w5 at hbb hb5 ⊢
    have z0 : w5.cell? ⟨Bb, 0, none⟩ = some (.int .i64 tr) := cell_at hbb rfl
    have z1 : w5.cell? ⟨Bb, 1, none⟩ = some (.int .i64 tp) := cell_at hbb rfl
    have z2 : w5.cell? ⟨Bb, 2, none⟩ = some (.float .f64 (fq tq)) := cell_at hbb rfl
    have z3 : w5.cell? ⟨Bb, 3, none⟩ = some (.int .i64 tpp) := cell_at hbb rfl
    have hBl := lt_of_block hbb
    have c5 := cCh w5.drew hb5.drew
    have HB5 : Hid (Below w.heap.size w w5) := HBW.out.trans (hb5.mono HBW.out.size)
    clear hbb cCh hb5
    go_region_held3 (fun w' => w'.cell? ⟨Bb, 0, none⟩ = some (.int .i64 tr) ∧ w'.cell? ⟨Bb, 1, none⟩ = some (.int .i64 tp) ∧ w'.cell? ⟨Bb, 2, none⟩ = some (.float .f64 (fq tq)) ∧ w'.cell? ⟨Bb, 3, none⟩ = some (.int .i64 tpp)) (go_keep) ((go_at_call 88; refine c5.mono ?_; rintro e w6 ⟨v6, rfl, hv1, hv2⟩; have y0 : w6.cell? ⟨Bb, 0, none⟩ = some (.int .i64 tr) := (hv2.cell hBl).trans z0; have y1 : w6.cell? ⟨Bb, 1, none⟩ = some (.int .i64 tp) := (hv2.cell hBl).trans z1; have y2 : w6.cell? ⟨Bb, 2, none⟩ = some (.float .f64 (fq tq)) := (hv2.cell hBl).trans z2; have y3 : w6.cell? ⟨Bb, 3, none⟩ = some (.int .i64 tpp) := (hv2.cell hBl).trans z3))
    all_goals go_wp2_with fail
    all_goals go_ret3
    refine ⟨v6, by rw [HQ.out.1]; rfl, HB5.out.trans ((show Below w5.heap.size w5 w6 from ⟨hv2.os, hv2.tape, hv2.output, hv2.size, hv2.block⟩).mono HB5.out.size), ?_⟩
    rw [HQ.out.2]
    exact hv1.base HB5.out.size
end Go.Proofs.YtilcmkiihefkkabGreatDoor.Mn
end
section
set_option linter.unusedVariables false
set_option linter.unusedSimpArgs false
namespace Go.Proofs.YtilcmkiihefkkabGreatDoor.Mn
open Go.RowKit Go.Shelf Go.Lib
/-- what Chain answers: the error, the score's word, the chain -/
def ansE (L : List (Int × Int)) (k : Int) : Int := errC L k
def ansF (L : List (Int × Int)) (k : Int) : Nat := if errC L k = 0 then fq (chQ k L) else 0
def ansM (L : List (Int × Int)) (k : Int) : List (Int × Int) := if errC L k = 0 then chL k L else []
def ChPost (L : List (Int × Int)) (k : Int) (w : World) (e : Ending) (w' : World) : Prop :=
  ∃ v, e = .returned (.tuple #[v, .float .f64 (ansF L k), .int .i64 (ansE L k)]) ∧ Below w.heap.size w w' ∧ OwnR w' w.heap.size 140 2 v (ansM L k).length (acells (ansM L k)) ∧ (ansE L k ≠ 0 → v = .slice none 0 0)
theorem chPost_bad {L : List (Int × Int)} {k er : Int} {w w' : World} {e : Ending} (he : errC L k = er) (h0 : er ≠ 0) (h : e = badC er ∧ Below w.heap.size w w') : ChPost L k w e w' := by
  obtain ⟨rfl, hb⟩ := h
  have e1 : ansM L k = [] := by unfold ansM; rw [if_neg (by rw [he]; exact h0)]
  have e2 : ansF L k = 0 := by unfold ansF; rw [if_neg (by rw [he]; exact h0)]
  have e3 : ansE L k = er := he
  refine ⟨.slice none 0 0, ?_, hb, ?_, fun _ => rfl⟩
  · rw [e2, e3]; rfl
  · rw [e1]; exact OwnR.nil _ _ _ _
theorem achain_all (L : List (Int × Int)) (n : Nat) (hn : L.length = n) (ao : Option Addr) (cap : Nat) (k : Int) (w : World) (hA : RdA w ao L) :
    Calls Tryz.prog 57 #[.slice ao n cap, .int .i64 k] w fun e w' => ChPost L k w e w' := by
  by_cases he : errC L k = 0
  · refine (achain_ok L n hn ao cap k w hA he).mono ?_
    rintro e w' ⟨v, rfl, hb, ho⟩
    refine ⟨v, ?_, hb, ?_, fun h => absurd he h⟩
    · unfold ansF ansE; rw [if_pos he, he]
    · unfold ansM; rw [if_pos he]; exact ho
  · refine (achain_err L n hn ao cap k w hA he).mono ?_
    intro e w' h
    exact chPost_bad rfl he h
theorem chQ_bound (L : List (Int × Int)) (k : Int) (he : errC L k = 0) : 0 ≤ chQ k L ∧ chQ k L ≤ 100000 ∧ (chL k L).length ≤ 400 := by
  have h : 1 ≤ k ∧ k ≤ 12 ∧ L.length ≤ 400 ∧ 0 < L.length := by
    unfold errC at he
    by_cases hk : k < 1 ∨ 12 < k
    · rw [if_pos hk] at he; omega
    · rw [if_neg hk] at he
      by_cases h4 : 400 < L.length
      · rw [if_pos h4] at he; omega
      · rw [if_neg h4] at he
        by_cases h0 : L.length = 0
        · rw [if_pos h0] at he; omega
        · omega
  have hm0 : 0 < (canon L).length := canon_ne L (fun h' => by rw [h'] at h; simp at h)
  have hm4 : (canon L).length ≤ 400 := Nat.le_trans (canon_length L) (by omega)
  have hml := mxi_lt (chT k L) (canon L).length hm0
  have hb := tb_bounds k (by omega) (canon L) (canon L).length (mxi (chT k L) (canon L).length) hml
  have h1 := hb.2.1
  have h2 : 4 * k * (((mxi (chT k L) (canon L).length : Nat) : Int) + 1) ≤ 48 * 401 := Int.mul_le_mul (by omega) (by omega) (by omega) (by omega)
  refine ⟨?_, ?_, ?_⟩
  · have := hb.1
    show 0 ≤ ((tb k (canon L) (canon L).length).getD (mxi (chT k L) (canon L).length) Lk0).q
    omega
  · show ((tb k (canon L) (canon L).length).getD (mxi (chT k L) (canon L).length) Lk0).q ≤ 100000
    omega
  · unfold chL
    rw [List.length_reverse]
    have : ∀ (T : List Lk) (f : Nat) (p : Int), (bk T f p).length ≤ f := by
      intro T f
      induction f with
      | zero => intro p; simp [bk]
      | succ f ih =>
        intro p
        unfold bk
        split
        · simp
        · simp only [List.length_cons]; have := ih (T.getD p.toNat Lk0).p; omega
    exact Nat.le_trans (this _ _ _) hm4
end Go.Proofs.YtilcmkiihefkkabGreatDoor.Mn
end
