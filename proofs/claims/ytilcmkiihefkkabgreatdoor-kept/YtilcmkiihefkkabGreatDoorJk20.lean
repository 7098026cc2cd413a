import Derived.BigQuiet
import Derived.Deep.CutBlock
import Derived.Deep.DeepCutAuto
import Derived.Deep.QuietTactic
import Derived.Deep.RegionHeld
import Derived.Deep.RegionHeld3
import Derived.Deep.RegionWith
import Derived.Laws.StructEq
import Derived.Lib.QuietBelow
import Derived.Shelf.LaySoft
import Derived.Test.YtilcmkiihefkkabGreatDoorJk1
import Derived.Test.YtilcmkiihefkkabGreatDoorJk8
section
set_option linter.unusedVariables false
set_option linter.unusedSimpArgs false
set_option maxRecDepth 100000
namespace Go.Proofs.YtilcmkiihefkkabGreatDoor
open Go.RowKit Go.Shelf Go.Lib
theorem OwnR.shape {w : World} {base : Nat} {e : TypeId} {size : Nat} {v : Value} {n : Nat} {xs : List Value} (h : OwnR w base e size v n xs) : ∃ ao c, v = .slice ao n c := by
  rcases h.2 with ⟨h1, h2⟩ | ⟨g, o, cap, cur, h1, _⟩
  · subst h2; exact ⟨none, 0, h1⟩
  · exact ⟨_, cap, h1⟩
theorem belDrewN {B : Nat} {a w : World} (h : Below B a w) (n : Nat) : Below B a (w.drewN n) := ⟨h.os, h.tape, h.output, h.size, h.block⟩
def cmpI (a b : Int) : Int := if a < b then -1 else if b < a then 1 else 0
set_option maxHeartbeats 1000000 in
theorem isnan_any (a : Int) (w : World) : Calls Tryz.prog 82 #[.int .i64 a] w fun e w' => e = .returned (.bool false) ∧ w' = w := by
  go_enter Tryz.func82, Tryz.ntmps82
  go_wp2
  go_ret
  exact ⟨by simp, rfl⟩
set_option maxHeartbeats 1000000 in
theorem cmpi_any (a b : Int) (w : World) : Calls Tryz.prog 55 #[.int .i64 a, .int .i64 b] w fun e w' => e = .returned (.int .i64 (cmpI a b)) ∧ w' = w := by
  go_enter Tryz.func55, Tryz.ntmps55
  by_cases h1 : a < b
  · have e : cmpI a b = -1 := by unfold cmpI; rw [if_pos h1]
    rw [e]
    go_wp2_with (go_at_call 82; refine (isnan_any _ _).mono ?_; rintro e w' ⟨rfl, rfl⟩)
    go_ret
    exact ⟨rfl, rfl⟩
  · by_cases h2 : b < a
    · have e : cmpI a b = 1 := by unfold cmpI; rw [if_neg h1, if_pos h2]
      rw [e]
      go_wp2_with (go_at_call 82; refine (isnan_any _ _).mono ?_; rintro e w' ⟨rfl, rfl⟩)
      go_ret
      exact ⟨rfl, rfl⟩
    · have e : cmpI a b = 0 := by unfold cmpI; rw [if_neg h1, if_neg h2]
      rw [e]
      go_wp2_with (go_at_call 82; refine (isnan_any _ _).mono ?_; rintro e w' ⟨rfl, rfl⟩)
      go_ret
      exact ⟨rfl, rfl⟩
set_option maxHeartbeats 1000000 in
theorem ccmp_any (k a l b : Int) (w : World) : Calls Tryz.prog 153 #[.agg #[.int .i64 k, .int .i64 a], .agg #[.int .i64 l, .int .i64 b]] w fun e w' => e = .returned (.int .i64 (cmpI a b)) ∧ Below w.heap.size w w' := by
  go_enter Tryz.func153, Tryz.ntmps153
  go_wp2_with (go_at_call 55; refine (cmpi_any _ _ _).mono ?_; rintro e w' ⟨rfl, rfl⟩)
  go_ret
  exact ⟨rfl, ((Below.refl _ w).alloc (Nat.le_refl _) _).alloc (by simp) _⟩
end Go.Proofs.YtilcmkiihefkkabGreatDoor
end
section
set_option linter.unusedVariables false
set_option linter.unusedSimpArgs false
set_option maxRecDepth 100000
namespace Go.Proofs.YtilcmkiihefkkabGreatDoor
open Go.RowKit Go.Shelf Go.Lib
theorem enterCcmp (args : Array Value) (w : World) : (callFunc 153 args).run Tryz.prog w = .ok (.enter 153 args) w := enters_of Tryz.func153 (by kernel_rfl) rfl args w
/-- the first of the least, among the first i -/
def bi (f : Nat → Int) : Nat → Nat
  | 0 => 0
  | i + 1 => if f i < f (bi f i) then i else bi f i
theorem bi_lt (f : Nat → Int) : ∀ i, 0 < i → bi f i < i
  | 0, h => absurd h (by omega)
  | i + 1, _ => by
    unfold bi
    split
    · omega
    · rcases Nat.eq_zero_or_pos i with rfl | h
      · simp [bi]
      · have := bi_lt f i h; omega
/-- MinFunc at work -/
def MnI (w wx : World) (X : Nat) (k a : Int) : Prop := wx.heap[X]? = some (.cells #[.int .i64 0, .int .i64 0] 234 (0, 0)) ∧ wx.heap[X + 1]? = some (.cells #[.int .i64 k, .int .i64 a] 234 (0, 0)) ∧ Below X w wx
theorem MnI.below {w wx wy : World} {X : Nat} {k a : Int} (h : MnI w wx X k a) {B : Nat} (hb : Below B wx wy) (hB : X + 1 < B) : MnI w wy X k a :=
  ⟨(hb.block X (by omega)).trans h.1, (hb.block (X + 1) hB).trans h.2.1, h.2.2.trans (hb.mono (by omega))⟩
theorem MnI.set {w wx : World} {X : Nat} {k a : Int} (h : MnI w wx X k a) (l b : Int) : MnI w ((wx.setCell ⟨X + 1, 0, none⟩ (.int .i64 l)).setCell ⟨X + 1, 1, none⟩ (.int .i64 b)) X l b := by
  obtain ⟨h1, h2, h3⟩ := h
  have u := (Upd.of_setCell (i := 0) (.int .i64 l) h2).setCell (i := 1) (.int .i64 b)
  exact ⟨(u.other X (by omega)).trans h1, u.here, ((h3.setCell (p := ⟨X + 1, 0, none⟩) (Nat.le_succ _) _).setCell (p := ⟨X + 1, 1, none⟩) (Nat.le_succ _) _)⟩
theorem cmpI_neg (a b : Int) : decide (cmpI a b < 0) = decide (a < b) := by
  unfold cmpI
  by_cases h1 : a < b
  · simp [h1]
  · rw [if_neg h1]
    by_cases h2 : b < a
    · simp [h1, h2]
    · simp [h1, h2]
set_option maxHeartbeats 4000000 in
theorem minf_any (f : Nat → Int) (g : Nat) (w : World) (hg : g < w.heap.size)
    (hC : ∀ j, j < 3 → w.cell? ⟨g, j * 2, none⟩ = some (.int .i64 j) ∧ w.cell? ⟨g, j * 2 + 1, none⟩ = some (.int .i64 (f j))) :
    Calls Tryz.prog 152 #[.slice (some ⟨g, 0, none⟩) 3 3, .func (.func 153) #[] #[]] w fun e w' => e = .returned (.agg #[.int .i64 (bi f 3 : Nat), .int .i64 (f (bi f 3))]) ∧ Below w.heap.size w w' := by
  have HC : Hid (∀ j, j < 3 → w.cell? ⟨g, j * 2, none⟩ = some (.int .i64 j) ∧ w.cell? ⟨g, j * 2 + 1, none⟩ = some (.int .i64 (f j))) := hC
  obtain ⟨d1, d2⟩ := hC 0 (by omega)
  simp only [Nat.zero_mul, Nat.add_zero, Nat.zero_add, Int.ofNat_zero] at d1 d2
  obtain ⟨c0, hc0⟩ : ∃ c0, c0 = f 0 := ⟨_, rfl⟩
  rw [← hc0] at d2
  have HC0 : Hid (c0 = f 0) := hc0
  have e1 : ∀ ob, (w.alloc ob).cell? ⟨g, 0, none⟩ = some (.int .i64 0) := fun ob => (World.cell?_of_block (Below.heap_alloc _ _ g hg)).trans d1
  have e2 : ∀ ob, (w.alloc ob).cell? ⟨g, 1, none⟩ = some (.int .i64 c0) := fun ob => (World.cell?_of_block (Below.heap_alloc _ _ g hg)).trans d2
  clear d1 d2 hC hc0
  go_enter Tryz.func152, Tryz.ntmps152
  go_wp2_with fail
  obtain ⟨X, hX⟩ : ∃ X, X = w.heap.size := ⟨_, rfl⟩
  have HX : Hid (X = w.heap.size) := hX
  have HST : Hid (MnI w ((w.alloc (.cells #[.int .i64 0, .int .i64 0] 234)).alloc (.cells #[.int .i64 0, .int .i64 c0] 234)) X (bi f 1 : Nat) (f (bi f 1))) := by
    refine ⟨?_, ?_, ?_⟩
    · rw [hX]
      exact (Below.heap_alloc (w.alloc (.cells #[.int .i64 0, .int .i64 0] 234)) _ _ (by simp)).trans (heap_alloc_new w _)
    · have := heap_alloc_new (w.alloc (.cells #[.int .i64 0, .int .i64 0] 234)) (.cells #[.int .i64 0, .int .i64 c0] 234 (0, 0))
      have e : (w.alloc (.cells #[.int .i64 0, .int .i64 0] 234)).heap.size = w.heap.size + 1 := by simp
      rw [e] at this
      rw [hX]
      have hb : bi f 1 = 0 := by have := bi_lt f 1 (by omega); omega
      rw [hb, ← HC0.out]
      exact this
    · rw [hX]
      exact ((Below.refl _ w).alloc (Nat.le_refl _) _).alloc (by simp) _
  rw [← hX]
  have hgX : g < X := by omega
  clear e1 e2 hX
  go_loopw [6] (fun iv wx => ∃ i : Nat, 1 ≤ i ∧ i ≤ 3 ∧ iv = .int .i64 i ∧ MnI w wx X (bi f i : Nat) (f (bi f i))) (fun iv _ => 3 - (RowKit.intOf iv).toNat)
  case atStart => exact ⟨1, by omega, by omega, rfl, HST.out⟩
  case round =>
    clear HST
    obtain ⟨i, hi1, hi2, rfl, hI⟩ := hrel
    have HMB : Hid (∀ x, x = bi f i → x = bi f i) := fun _ h => h
    obtain ⟨mb, hmb⟩ : ∃ m, m = bi f i := ⟨_, rfl⟩
    obtain ⟨mq, hmq⟩ : ∃ m, m = f mb := ⟨_, rfl⟩
    rw [← hmb, ← hmq] at hI
    have HMB : Hid (mb = bi f i) := hmb
    have HMQ : Hid (mq = f mb) := hmq
    have hI2 := hI.2.1
    have hI1 := hI.1
    have m0 : wr.cell? ⟨X + 1, 0, none⟩ = some (.int .i64 mb) := cell_at hI2 rfl
    have m1 : wr.cell? ⟨X + 1, 1, none⟩ = some (.int .i64 mq) := cell_at hI2 rfl
    have hXlt : X + 1 < wr.heap.size := lt_of_block hI2
    by_cases hlt : i < 3
    · have hltI : (i : Int) < 3 := by omega
      obtain ⟨tq, htq⟩ : ∃ t, t = f i := ⟨_, rfl⟩
      obtain ⟨d1, d2⟩ := HC.out i hlt
      rw [← htq] at d2
      have HTQ : Hid (tq = f i) := htq
      rw [← hI.2.2.cell hgX] at d1 d2
      have cL := fun W => ccmp_any i tq mb mq W
      have HP : Hid (decide (cmpI tq mq < 0) = decide (tq < mq)) := cmpI_neg tq mq
      obtain ⟨r, hr⟩ : ∃ r, r = cmpI tq mq := ⟨_, rfl⟩
      rw [← hr] at cL HP
      have hrr : -1 ≤ r ∧ r ≤ 1 := by
        rw [hr]; unfold cmpI
        split
        · omega
        · split <;> omega
      have cQ : ∀ d os, Calls Tryz.prog 153 #[.agg #[.int .i64 i, .int .i64 tq], .agg #[.int .i64 mb, .int .i64 mq]] (Sort.grow (redrawn wr d) os) fun e w'' => e = .returned (.int .i64 r) ∧ ∃ p : Regrown, w'' = Sort.grow (redrawn wr p.d) p.os := fun d os => Calls.regrown_of (cL _)
      have k1 := cell_regrown d1
      have k2 := cell_regrown d2
      have k5 := cell_regrown m0
      have k6 := cell_regrown m1
      have HI : Hid (MnI w wr X mb mq) := hI
      have e49 := enterCcmp
      clear hr cL hI hI1 hI2 hmb hmq htq
      go_wp2_with fail
      refine wp_region_quiet_below (by kernel_rfl) (by kernel_rfl) ?_
      repeat (go_big_quiet_step (exact cQ _ _))
      refine wpQuiet_nil ?_
      intro w5 hw'
      have hb5 : Below wr.heap.size wr w5 := by
        obtain ⟨pq, hw''⟩ := hw'
        rw [hw'']; exact below_regrown wr pq.d pq.os
      have hgw : g < wr.heap.size := by omega
      have b1 : w5.cell? ⟨g, i * 2, none⟩ = some (.int .i64 i) := by rw [hb5.cell hgw]; exact d1
      have b2 : w5.cell? ⟨g, i * 2 + 1, none⟩ = some (.int .i64 tq) := by rw [hb5.cell hgw]; exact d2
      have hI5 : MnI w w5 X mb mq := HI.out.below hb5 hXlt
      have n0 : w5.cell? ⟨X + 1, 0, none⟩ = some (.int .i64 mb) := cell_at hI5.2.1 rfl
      have n1 : w5.cell? ⟨X + 1, 1, none⟩ = some (.int .i64 mq) := cell_at hI5.2.1 rfl
      have nf : ∀ j, w5.frozen? ⟨X + 1, j, none⟩ = false := fun j => frozen_of_row _ _ _ _ _ hI5.2.1
      have HI5 : Hid (MnI w w5 X mb mq) := hI5
      clear hw' hb5 k1 k2 k5 k6 cQ d1 d2 m0 m1 hI5 HI
      by_cases hgt : tq < mq
      · have hr0 : r < 0 := by have := HP.out; simpa [hgt] using this
        go_wp2_with fail
        go_roundw
        case rel =>
          refine ⟨i + 1, by omega, by omega, by go_num, ?_⟩
          have e : bi f (i + 1) = i := by
            rw [bi, if_pos]
            rw [← HMB.out, ← HMQ.out, ← HTQ.out]; exact hgt
          rw [e, ← HTQ.out]
          exact HI5.out.set i tq
        case measure => simp [RowKit.intOf]; omega
      · have hr0 : ¬ r < 0 := by have := HP.out; simpa [hgt] using this
        go_wp2_with fail
        go_roundw
        case rel =>
          refine ⟨i + 1, by omega, by omega, by go_num, ?_⟩
          have e : bi f (i + 1) = bi f i := by
            rw [bi, if_neg]
            rw [← HMB.out, ← HMQ.out, ← HTQ.out]; exact hgt
          rw [e, ← HMB.out, ← HMQ.out]
          exact HI5.out
        case measure => simp [RowKit.intOf]; omega
    · have hie : i = 3 := by omega
      subst hie
      have HI : Hid (MnI w wr X mb mq) := hI
      have r0 := cell_at hI1 (i := 0) rfl
      have r1 := cell_at hI1 (i := 1) rfl
      have rf : ∀ j, wr.frozen? ⟨X, j, none⟩ = false := fun j => frozen_of_row _ _ _ _ _ hI1
      clear hI hI1 hI2 hmb hmq
      go_wp2_with fail
      obtain ⟨h1, h2, h3⟩ := HI.out
      have u := (Upd.of_setCell (i := 0) (.int .i64 mb) h1).setCell (i := 1) (.int .i64 mq)
      have HB9 : Hid (Below X w ((wr.setCell ⟨X, 0, none⟩ (.int .i64 mb)).setCell ⟨X, 1, none⟩ (.int .i64 mq))) := ((h3.setCell (p := ⟨X, 0, none⟩) (Nat.le_refl _) _).setCell (p := ⟨X, 1, none⟩) (Nat.le_refl _) _)
      have hu := u.here
      clear u h1 h2 h3 r0 r1 rf m0 m1
      generalize ((wr.setCell ⟨X, 0, none⟩ (.int .i64 mb)).setCell ⟨X, 1, none⟩ (.int .i64 mq)) = w9 at hu HB9 ⊢
      have q0 : w9.cell? ⟨X, 0, none⟩ = some (.int .i64 mb) := cell_at hu rfl
      have q1 : w9.cell? ⟨X, 1, none⟩ = some (.int .i64 mq) := cell_at hu rfl
      clear hu
      refine bodyPost_ret (by simp [results, Tryz.results152, go_sem, q0, q1]; try rfl) rfl ?_
      refine ⟨?_, by rw [← HX.out]; exact HB9.out⟩
      rw [← HMB.out, ← HMQ.out]
end Go.Proofs.YtilcmkiihefkkabGreatDoor
end
section
set_option linter.unusedVariables false
set_option linter.unusedSimpArgs false
set_option maxRecDepth 100000
namespace Go.Proofs.YtilcmkiihefkkabGreatDoor
open Go.RowKit Go.Shelf Go.Lib
/-- what a script costs that ends with a letter, if it is to go on with another -/
def fA (c : C3) (x j : Nat) : Int := pv c j + if x ≠ 0 ∧ x ≠ j then 4 else 0
/-- the least of these -/
def av (c : C3) : Nat → Int
  | 0 => aM c
  | 1 => aI c
  | _ => aD c
theorem bi3 (f : Nat → Int) : bi f 3 = lt3 (f 0) (f 1) (f 2) ∧ f (bi f 3) = min (f 0) (min (f 1) (f 2)) := by
  have e1 : bi f 1 = 0 := by have := bi_lt f 1 (by omega); omega
  have e2 : bi f 2 = if f 1 < f 0 then 1 else 0 := by rw [bi, e1]
  have e3 : bi f 3 = if f 2 < f (bi f 2) then 2 else bi f 2 := by rw [bi]
  by_cases h1 : f 1 < f 0
  · rw [if_pos h1] at e2
    rw [e2] at e3
    by_cases h2 : f 2 < f 1
    · rw [if_pos h2] at e3
      rw [e3]
      unfold lt3
      rw [if_neg (by omega), if_neg (by omega)]
      exact ⟨rfl, by omega⟩
    · rw [if_neg h2] at e3
      rw [e3]
      unfold lt3
      rw [if_neg (by omega), if_pos (by omega)]
      exact ⟨rfl, by omega⟩
  · rw [if_neg h1] at e2
    rw [e2] at e3
    by_cases h2 : f 2 < f 0
    · rw [if_pos h2] at e3
      rw [e3]
      unfold lt3
      rw [if_neg (by omega), if_neg (by omega)]
      exact ⟨rfl, by omega⟩
    · rw [if_neg h2] at e3
      rw [e3]
      unfold lt3
      rw [if_pos (by omega)]
      exact ⟨rfl, by omega⟩
theorem fA_bi (c : C3) (x : Nat) (hx : x ≤ 2) : bi (fA c x) 3 = nx c x ∧ fA c x (bi (fA c x) 3) = av c x := by
  obtain ⟨h1, h2⟩ := bi3 (fA c x)
  rw [h2, h1]
  obtain ⟨m, y, d⟩ := c
  rcases (show x = 0 ∨ x = 1 ∨ x = 2 by omega) with rfl | rfl | rfl
  · simp [fA, pv, nx, av, aM]
  · simp [fA, pv, nx, av, aI]
  · simp [fA, pv, nx, av, aD]
/-- ahead at work -/
def AhI (w wx : World) (f : Nat → Int) (i : Nat) : Prop :=
  wx.heap[w.heap.size + 1]? = some (.cells #[.int .i64 0, .int .i64 0] 234 (0, 0)) ∧
  (∃ cur : Array Value, wx.heap[w.heap.size + 1 + 1]? = some (.cells cur 254 (0, 0)) ∧ cur.size = 6 ∧ ∀ j, j < i → cur[j * 2]? = some (.int .i64 j) ∧ cur[j * 2 + 1]? = some (.int .i64 (f j))) ∧ Below w.heap.size w wx
theorem AhI.any {w wx : World} {f : Nat → Int} {i : Nat} (h : AhI w wx f i) (j : Nat) (hj : j < 6) : (∃ y, wx.cell? ⟨w.heap.size + 1 + 1, j, none⟩ = some y) ∧ wx.frozen? ⟨w.heap.size + 1 + 1, j, none⟩ = false := by
  obtain ⟨_, ⟨cur, h1, h2, _⟩, _⟩ := h
  exact ⟨⟨_, cell_at h1 (Array.getElem?_eq_getElem (by omega))⟩, frozen_of_row _ _ _ _ _ h1⟩
theorem AhI.set {w wx : World} {f : Nat → Int} {i : Nat} (h : AhI w wx f i) (hi : i < 3) (a : Int) (ha : a = f i) (n : Nat) : AhI w (((wx.drewN n).setCell ⟨w.heap.size + 1 + 1, i * 2, none⟩ (.int .i64 i)).setCell ⟨w.heap.size + 1 + 1, i * 2 + 1, none⟩ (.int .i64 a)) f (i + 1) := by
  obtain ⟨h0, ⟨cur, h1, h2, h3⟩, hb⟩ := h
  have h1' : (wx.drewN n).heap[w.heap.size + 1 + 1]? = some (.cells cur 254 (0, 0)) := h1
  have u := (Upd.of_setCell (i := i * 2) (.int .i64 i) h1').setCell (i := i * 2 + 1) (.int .i64 a)
  refine ⟨(u.other _ (by omega)).trans h0, ⟨_, u.here, by simpa using h2, fun j hj => ?_⟩, (((belDrewN hb n).setCell (p := ⟨w.heap.size + 1 + 1, i * 2, none⟩) (show w.heap.size ≤ w.heap.size + 1 + 1 by omega) _).setCell (p := ⟨w.heap.size + 1 + 1, i * 2 + 1, none⟩) (show w.heap.size ≤ w.heap.size + 1 + 1 by omega) _)⟩
  by_cases he : j = i
  · subst he
    subst ha
    exact ⟨by rw [Array.getElem?_setIfInBounds_ne (by omega), Array.getElem?_setIfInBounds_self_of_lt (by omega)], by rw [Array.getElem?_setIfInBounds_self_of_lt (by simp; omega)]⟩
  · rw [Array.getElem?_setIfInBounds_ne (by omega), Array.getElem?_setIfInBounds_ne (by omega), Array.getElem?_setIfInBounds_ne (by omega), Array.getElem?_setIfInBounds_ne (by omega)]
    exact h3 j (by omega)
set_option maxHeartbeats 4000000 in
theorem ahead_any (c : C3) (x : Nat) (hx : x ≤ 2) (w : World) (hc : 0 ≤ c.m ∧ c.m ≤ 2000000000 ∧ 0 ≤ c.i ∧ c.i ≤ 2000000000 ∧ 0 ≤ c.d ∧ c.d ≤ 2000000000) :
    Calls Tryz.prog 134 #[.agg #[.int .i64 c.m, .int .i64 c.i, .int .i64 c.d], .int .i64 x] w fun e w' => e = .returned (.agg #[.int .i64 (nx c x : Nat), .int .i64 (av c x)]) ∧ Below w.heap.size w w' := by
  obtain ⟨b1, b2⟩ := fA_bi c x hx
  rw [← b1, ← b2]
  clear b1 b2
  have HF : Hid (∀ j, fA c x j = pv c j + if x ≠ 0 ∧ x ≠ j then 4 else 0) := fun _ => rfl
  have HV : Hid (pv c 0 = c.m ∧ pv c 1 = c.i ∧ pv c 2 = c.d) := ⟨rfl, rfl, rfl⟩
  generalize fA c x = f at HF ⊢
  obtain ⟨m, y, d⟩ := c
  simp only at hc HV ⊢
  generalize pv ⟨m, y, d⟩ = q at HF HV
  obtain ⟨m1, m2, y1, y2, d1, d2⟩ := hc
  have i0 : ∀ w, (Instr.index 229 (.agg #[.int .i64 m, .int .i64 y, .int .i64 d]) (.int .i64 0)).run Tryz.prog w = .ok (.int .i64 m) w := fun _ => by kernel_rfl
  have i1 : ∀ w, (Instr.index 229 (.agg #[.int .i64 m, .int .i64 y, .int .i64 d]) (.int .i64 1)).run Tryz.prog w = .ok (.int .i64 y) w := fun _ => by kernel_rfl
  have i2 : ∀ w, (Instr.index 229 (.agg #[.int .i64 m, .int .i64 y, .int .i64 d]) (.int .i64 2)).run Tryz.prog w = .ok (.int .i64 d) w := fun _ => by kernel_rfl
  go_enter Tryz.func134, Tryz.ntmps134
  go_wp2_with fail
  have HST : Hid (AhI w (((w.alloc (Obj.cells #[.int .i64 m, .int .i64 y, .int .i64 d] 229)).alloc (Obj.cells #[.int .i64 0, .int .i64 0] 234)).alloc (Obj.cells #[.int .i64 0, .int .i64 0, .int .i64 0, .int .i64 0, .int .i64 0, .int .i64 0] 254)) f 0) := by
    refine ⟨?_, ⟨#[.int .i64 0, .int .i64 0, .int .i64 0, .int .i64 0, .int .i64 0, .int .i64 0], ?_, rfl, fun j hj => absurd hj (by omega)⟩, ?_⟩
    · rw [Below.heap_alloc _ _ _ (by simp)]
      have := heap_alloc_new (w.alloc (Obj.cells #[.int .i64 m, .int .i64 y, .int .i64 d] 229)) (Obj.cells #[.int .i64 0, .int .i64 0] 234)
      have e : (w.alloc (Obj.cells #[.int .i64 m, .int .i64 y, .int .i64 d] 229)).heap.size = w.heap.size + 1 := by simp
      rw [e] at this; exact this
    · have := heap_alloc_new ((w.alloc (Obj.cells #[.int .i64 m, .int .i64 y, .int .i64 d] 229)).alloc (Obj.cells #[.int .i64 0, .int .i64 0] 234)) (Obj.cells #[.int .i64 0, .int .i64 0, .int .i64 0, .int .i64 0, .int .i64 0, .int .i64 0] 254)
      have e : ((w.alloc (Obj.cells #[.int .i64 m, .int .i64 y, .int .i64 d] 229)).alloc (Obj.cells #[.int .i64 0, .int .i64 0] 234)).heap.size = w.heap.size + 1 + 1 := by simp
      rw [e] at this; exact this
    · exact (((Below.refl _ w).alloc (Nat.le_refl _) _).alloc (by simp) _).alloc (by simp; omega) _
  go_loopw [9] (fun iv wx => ∃ i : Nat, i ≤ 3 ∧ iv = .int .i64 i ∧ AhI w wx f i) (fun iv _ => 3 - (RowKit.intOf iv).toNat)
  case atStart => exact ⟨0, by omega, rfl, HST.out⟩
  case round =>
    clear HST
    obtain ⟨i, hi, rfl, hI⟩ := hrel
    have hF := HF.out i
    obtain ⟨hv0, hv1, hv2⟩ := HV.out
    by_cases hlt : i < 3
    · obtain ⟨⟨v0, t0⟩, z0⟩ := hI.any (i * 2) (by omega)
      obtain ⟨⟨v1, t1⟩, z1⟩ := hI.any (i * 2 + 1) (by omega)
      have HI : Hid (∀ (a : Int) (n : Nat), a = f i → AhI w (((wr.drewN n).setCell ⟨w.heap.size + 1 + 1, i * 2, none⟩ (.int .i64 i)).setCell ⟨w.heap.size + 1 + 1, i * 2 + 1, none⟩ (.int .i64 a)) f (i + 1)) := fun a n ha => hI.set hlt a ha n
      clear hI
      rcases (show i = 0 ∨ i = 1 ∨ i = 2 by omega) with rfl | rfl | rfl
      all_goals first | rw [hv0] at hF | rw [hv1] at hF | rw [hv2] at hF
      all_goals
        rcases (show x = 0 ∨ x = 1 ∨ x = 2 by omega) with rfl | rfl | rfl
        all_goals
          simp at hF
          have HFF := (show Hid _ from hF.symm)
          clear hF hv0 hv1 hv2
          go_wp2_with fail
          go_roundw
          case rel => first | exact ⟨1, by omega, by go_num, HI.out _ 0 HFF.out⟩ | exact ⟨2, by omega, by go_num, HI.out _ 0 HFF.out⟩ | exact ⟨3, by omega, by go_num, HI.out _ 0 HFF.out⟩
          case measure => simp [RowKit.intOf]
    · have hie : i = 3 := by omega
      subst hie
      obtain ⟨h0, ⟨cur, h1, h2, h3⟩, hb⟩ := hI
      have hlt2 := lt_of_block h1
      have r0 := cell_at h0 (i := 0) rfl
      have r1 := cell_at h0 (i := 1) rfl
      have cM := fun W hg hC => minf_any f (w.heap.size + 1 + 1) W hg hC
      have HC : Hid (∀ j, j < 3 → wr.cell? ⟨w.heap.size + 1 + 1, j * 2, none⟩ = some (.int .i64 j) ∧ wr.cell? ⟨w.heap.size + 1 + 1, j * 2 + 1, none⟩ = some (.int .i64 (f j))) := fun j hj => ⟨cell_at h1 (h3 j hj).1, cell_at h1 (h3 j hj).2⟩
      have HB : Hid (Below w.heap.size w wr) := hb
      have H0 : Hid (wr.heap[w.heap.size + 1]? = some (.cells #[.int .i64 0, .int .i64 0] 234 (0, 0))) := h0
      clear h1 h2 h3 hb h0 hv0 hv1 hv2 hF
      go_wp2_with fail
      refine (cM wr hlt2 HC.out).mono ?_
      rintro e w5 ⟨rfl, hb5⟩
      have H5 : Hid (w5.heap[w.heap.size + 1]? = some (.cells #[.int .i64 0, .int .i64 0] 234 (0, 0))) := (hb5.block _ (by omega)).trans H0.out
      have HB5 : Hid (Below w.heap.size w w5) := HB.out.trans (hb5.mono (by omega))
      have q0 := cell_at H5.out (i := 0) rfl
      have q1 := cell_at H5.out (i := 1) rfl
      have qf : ∀ j, w5.frozen? ⟨w.heap.size + 1, j, none⟩ = false := fun j => frozen_of_row _ _ _ _ _ H5.out
      clear hb5 cM r0 r1 HC HB H0
      obtain ⟨nn, hnn⟩ : ∃ nn, nn = bi f 3 := ⟨_, rfl⟩
      obtain ⟨vv, hvv⟩ : ∃ vv, vv = f nn := ⟨_, rfl⟩
      have HNN : Hid (nn = bi f 3) := hnn
      have HVV : Hid (vv = f nn) := hvv
      rw [← hnn, ← hvv]
      clear hnn hvv
      go_wp2_with fail
      have u := (Upd.of_setCell (i := 0) (.int .i64 nn) H5.out).setCell (i := 1) (.int .i64 vv)
      have HB9 : Hid (Below w.heap.size w ((w5.setCell ⟨w.heap.size + 1, 0, none⟩ (.int .i64 nn)).setCell ⟨w.heap.size + 1, 1, none⟩ (.int .i64 vv))) := ((HB5.out.setCell (p := ⟨w.heap.size + 1, 0, none⟩) (Nat.le_succ _) _).setCell (p := ⟨w.heap.size + 1, 1, none⟩) (Nat.le_succ _) _)
      have hu := u.here
      clear u q0 q1 qf H5 HB5
      generalize ((w5.setCell ⟨w.heap.size + 1, 0, none⟩ (.int .i64 nn)).setCell ⟨w.heap.size + 1, 1, none⟩ (.int .i64 vv)) = w9 at hu HB9 ⊢
      have q0 : w9.cell? ⟨w.heap.size + 1, 0, none⟩ = some (.int .i64 nn) := cell_at hu rfl
      have q1 : w9.cell? ⟨w.heap.size + 1, 1, none⟩ = some (.int .i64 vv) := cell_at hu rfl
      clear hu
      refine bodyPost_ret (by simp [results, Tryz.results134, go_sem, q0, q1]; try rfl) rfl ?_
      refine ⟨?_, HB9.out⟩
      rw [HVV.out, HNN.out]
end Go.Proofs.YtilcmkiihefkkabGreatDoor
end
section
set_option linter.unusedVariables false
set_option linter.unusedSimpArgs false
set_option maxRecDepth 100000
namespace Go.Proofs.YtilcmkiihefkkabGreatDoor
open Go.RowKit Go.Shelf Go.Lib
theorem AppFr.below {w w' : World} {v : Value} {g' base : Nat} (h : AppFr w w' v g') (hv : ∀ g, v.ownBlock = some g → base ≤ g) (hb : base ≤ w.heap.size) : Below base w w' :=
  ⟨h.os, h.tape, h.output, h.size, fun j hj => h.other j (by omega) (fun he => by have := hv j he; omega)⟩
/-- another kind of row is left alone by an append -/
theorem OwnR.app {w w' : World} {base base2 : Nat} {e e2 : TypeId} {size size2 : Nat} {v v2 : Value} {n n2 : Nat} {xs xs2 : List Value} {g' : Nat} (h : OwnR w base e size v n xs) (h2 : OwnR w base2 e2 size2 v2 n2 xs2) (hne : e ≠ e2) (hf : AppFr w w' v2 g') : OwnR w' base e size v n xs := by
  have h' := h
  obtain ⟨h0, h⟩ := h'
  rcases h with ⟨rfl, rfl⟩ | ⟨g, o, cap, cur, rfl, a1, a2, a3⟩
  · exact ⟨h0, Or.inl ⟨rfl, rfl⟩⟩
  · exact ⟨h0, Or.inr ⟨g, o, cap, cur, rfl, a1, (hf.other g (lt_of_block a2) (h2.tag hne a2)).trans a2, a3⟩⟩
theorem OwnR.setOther {w : World} {base : Nat} {e : TypeId} {size : Nat} {v : Value} {n : Nat} {xs : List Value} (h : OwnR w base e size v n xs) {B i : Nat} (u : Value) (hne : v.ownBlock ≠ some B) : OwnR (w.setCell ⟨B, i, none⟩ u) base e size v n xs :=
  h.other fun g hg _ => heap_setCell_other w _ g u (fun he => hne (by rw [hg, he]))
theorem OwnR.alloc {w : World} {base : Nat} {e : TypeId} {size : Nat} {v : Value} {n : Nat} {xs : List Value} (h : OwnR w base e size v n xs) (ob : Obj) : OwnR (w.alloc ob) base e size v n xs := h.other fun g _ hlt => Below.heap_alloc _ _ _ hlt
theorem OwnR.drewN {w : World} {base : Nat} {e : TypeId} {size : Nat} {v : Value} {n : Nat} {xs : List Value} (h : OwnR w base e size v n xs) (q : Nat) : OwnR (w.drewN q) base e size v n xs := h.other fun g _ hlt => rfl
theorem OwnR.below {w w' : World} {base B : Nat} {e : TypeId} {size : Nat} {v : Value} {n : Nat} {xs : List Value} (h : OwnR w base e size v n xs) (hb : Below B w w') (hB : w.heap.size ≤ B) : OwnR w' base e size v n xs := h.other fun g _ hlt => hb.block g (by omega)
theorem OwnR.cell {w : World} {base : Nat} {e : TypeId} {size : Nat} {g o n cap : Nat} {xs : List Value} (h : OwnR w base e size (.slice (some ⟨g, o, none⟩) n cap) n xs) {j : Nat} {u : Value} (hj : xs[j]? = some u) : w.cell? ⟨g, o + j, none⟩ = some u := by
  rcases h.2 with ⟨h1, _⟩ | ⟨g', o', cap', cur, he, h1, h2, h3, h4, h5, h6⟩
  · simp at h1
  · simp only [Value.slice.injEq, Option.some.injEq, Addr.mk.injEq, and_true, true_and] at he
    obtain ⟨⟨rfl, rfl⟩, rfl⟩ := he
    exact cell_at h2 (h6 j u hj)
theorem OwnR.frozen {w : World} {base : Nat} {e : TypeId} {size : Nat} {g o n cap : Nat} {xs : List Value} (h : OwnR w base e size (.slice (some ⟨g, o, none⟩) n cap) n xs) (j : Nat) : w.frozen? ⟨g, j, none⟩ = false := by
  rcases h.2 with ⟨h1, _⟩ | ⟨g', o', cap', cur, he, h1, h2, h3, h4, h5, h6⟩
  · simp at h1
  · simp only [Value.slice.injEq, Option.some.injEq, Addr.mk.injEq, and_true, true_and] at he
    obtain ⟨⟨rfl, rfl⟩, rfl⟩ := he
    exact frozen_of_row _ _ _ _ _ h2
theorem OwnR.set {w : World} {base : Nat} {e : TypeId} {size : Nat} {g o n cap : Nat} {xs : List Value} (h : OwnR w base e size (.slice (some ⟨g, o, none⟩) n cap) n xs) (j : Nat) (u : Value) (hj : j < xs.length) : OwnR (w.setCell ⟨g, o + j, none⟩ u) base e size (.slice (some ⟨g, o, none⟩) n cap) n (xs.set j u) := by
  obtain ⟨h0, h⟩ := h
  rcases h with ⟨h1, _⟩ | ⟨g', o', cap', cur, he, h1, h2, h3, h4, h5, h6⟩
  · simp at h1
  · simp only [Value.slice.injEq, Option.some.injEq, Addr.mk.injEq, and_true, true_and] at he
    obtain ⟨⟨rfl, rfl⟩, rfl⟩ := he
    refine ⟨by simpa using h0, Or.inr ⟨g, o, cap, _, rfl, h1, heap_setCell_same w g (o + j) cur e u h2, h3, h4, by simpa using h5, fun i v hi => ?_⟩⟩
    have hle : o + xs.length ≤ cur.size := by
      have : n * size ≤ cap * size := Nat.mul_le_mul_right _ h3
      omega
    by_cases hij : i = j
    · subst hij
      rw [List.getElem?_set_self hj] at hi
      rw [Array.getElem?_setIfInBounds_self_of_lt (by omega)]
      exact hi
    · rw [List.getElem?_set_ne (Ne.symm hij)] at hi
      rw [Array.getElem?_setIfInBounds_ne (by omega)]
      exact h6 i v hi
theorem OwnR.addr {w : World} {base : Nat} {e : TypeId} {size : Nat} {v : Value} {n : Nat} {xs : List Value} (h : OwnR w base e size v n xs) (hn : 0 < n) : ∃ g o cap, v = .slice (some ⟨g, o, none⟩) n cap ∧ base ≤ g ∧ g < w.heap.size := by
  rcases h.2 with ⟨_, h⟩ | ⟨g', o', cap', cur, he, h1, h2, _⟩
  · omega
  · exact ⟨g', o', cap', he, h1, lt_of_block h2⟩
/-- what stands in a new block behind an append's back -/
theorem box_at (W : World) (vs : List Value) (t : TypeId) (s : Nat) (hs : s = W.heap.size) : ∀ j u, vs[j]? = some u → (W.alloc (.cells vs.toArray t)).cell? ((⟨s, 0, none⟩ : Addr).add j) = some u := by
  intro j u hj
  subst hs
  rw [Addr.add_lit]
  refine cell_at (heap_alloc_new W _) ?_
  simpa using hj
def celV (c : C3) : List Value := [.int .i64 c.m, .int .i64 c.i, .int .i64 c.d]
def celsL (f : Nat → C3) (n : Nat) : List Value := (List.range n).flatMap fun k => celV (f k)
theorem celsL_succ (f : Nat → C3) (n : Nat) : celsL f (n + 1) = celsL f n ++ celV (f n) := by
  simp [celsL, List.range_succ, List.flatMap_append]
theorem celsL_length (f : Nat → C3) : ∀ n, (celsL f n).length = n * 3
  | 0 => rfl
  | n + 1 => by rw [celsL_succ, List.length_append, celsL_length f n]; simp [celV]; omega
theorem celsL_get (f : Nat → C3) : ∀ (n k : Nat), k < n → (celsL f n)[k * 3]? = some (.int .i64 (f k).m) ∧ (celsL f n)[k * 3 + 1]? = some (.int .i64 (f k).i) ∧ (celsL f n)[k * 3 + 2]? = some (.int .i64 (f k).d)
  | 0, k, h => absurd h (by omega)
  | n + 1, k, h => by
    rw [celsL_succ]
    by_cases he : k = n
    · subst he
      have hl := celsL_length f k
      refine ⟨?_, ?_, ?_⟩
      · rw [List.getElem?_append_right (by omega), hl, show k * 3 - k * 3 = 0 by omega]; rfl
      · rw [List.getElem?_append_right (by omega), hl, show k * 3 + 1 - k * 3 = 1 by omega]; rfl
      · rw [List.getElem?_append_right (by omega), hl, show k * 3 + 2 - k * 3 = 2 by omega]; rfl
    · have hl := celsL_length f n
      obtain ⟨h1, h2, h3⟩ := celsL_get f n k (by omega)
      refine ⟨?_, ?_, ?_⟩
      · rw [List.getElem?_append_left (by omega)]; exact h1
      · rw [List.getElem?_append_left (by omega)]; exact h2
      · rw [List.getElem?_append_left (by omega)]; exact h3
theorem OwnR.cel {w : World} {base : Nat} {e : TypeId} {g o n cap : Nat} {f : Nat → C3} (h : OwnR w base e 3 (.slice (some ⟨g, o, none⟩) n cap) n (celsL f n)) (k : Nat) (hk : k < n) :
    w.cell? ⟨g, o + k * 3, none⟩ = some (.int .i64 (f k).m) ∧ w.cell? ⟨g, o + k * 3 + 1, none⟩ = some (.int .i64 (f k).i) ∧ w.cell? ⟨g, o + k * 3 + 2, none⟩ = some (.int .i64 (f k).d) := by
  obtain ⟨h1, h2, h3⟩ := celsL_get f n k hk
  refine ⟨h.cell h1, ?_, ?_⟩
  · rw [Nat.add_assoc]; exact h.cell h2
  · rw [Nat.add_assoc]; exact h.cell h3
def numV (l : List Nat) : List Value := l.map fun (k : Nat) => .int .i64 k
theorem cel_oneCell (x y z : Int) : ∀ u ∈ ([.int .i64 x, .int .i64 y, .int .i64 z] : List Value), u.oneCell' = true := by
  intro u hu
  simp only [List.mem_cons, List.not_mem_nil, or_false] at hu
  rcases hu with rfl | rfl | rfl <;> rfl
theorem int_oneCell (k : IntKind) (x : Int) : ∀ u ∈ ([.int k x] : List Value), u.oneCell' = true := by
  intro u hu
  simp only [List.mem_cons, List.not_mem_nil, or_false] at hu
  subst hu; rfl
theorem Tryz.info3 : (Tryz.prog.info? 3).map (fun i => (i.zero, i.size, i.bytes)) = some (some (.int .i64 0), 1, 8) := by kernel_rfl
theorem Tryz.infoCell : (Tryz.prog.info? 229).map (fun i => (i.zero, i.size, i.bytes)) = some (some (.agg #[.int .i64 0, .int .i64 0, .int .i64 0]), 3, 24) := by kernel_rfl
theorem Tryz.infoCells : (Tryz.prog.info? 227).map (fun i => (i.zero, i.size, i.bytes)) = some (some (.slice none 0 0), 1, 24) := by kernel_rfl
end Go.Proofs.YtilcmkiihefkkabGreatDoor
end
section
set_option linter.unusedVariables false
set_option linter.unusedSimpArgs false
set_option maxRecDepth 100000
namespace Go.Proofs.YtilcmkiihefkkabGreatDoor
open Go.RowKit Go.Shelf Go.Lib
theorem zA0 {α : Type} (l : List α) (i : Nat) (a : α) : l.toArray.setIfInBounds i a = (l.set i a).toArray := List.setIfInBounds_toArray ..
theorem zZ0 {α : Type} (x y : α) (l : List α) : (x :: l).set 0 y = y :: l := rfl
theorem zS0 {α : Type} (x y : α) (l : List α) (n : Nat) : (x :: l).set (n + 1) y = x :: l.set n y := rfl
section
variable {P : Program} {ops : Array Oper} {Q : Exit → Act → World → Prop} {md : Region.Mode} {S : World → Prop} {L : Nat}
/-- whichever operation comes up; S holds behind each, but the last one -/
def wpAnyX (P : Program) (md : Region.Mode) (ops : Array Oper) (Q : Exit → Act → World → Prop) (S : World → Prop) (L : Nat) : Nat → Array Bool → Act → World → Prop
  | 0, listed, a, w => Region.ready md ops listed = [] ∧ Q .normal a w
  | fuel + 1, listed, a, w =>
    (Region.ready md ops listed = [] → Q .normal a w) ∧
    ∀ i ∈ Region.ready md ops listed, wpOp P ops Q i (fun a' w' => (i ≠ L → S w') ∧ wpAnyX P md ops Q S L fuel (listed.setIfInBounds i true) a' w') a w
theorem wpAny_of_X : ∀ (fuel : Nat) (listed : Array Bool) (a : Act) (w : World), wpAnyX P md ops Q S L fuel listed a w → wpAny P md ops Q fuel listed a w
  | 0, _, _, _, h => h
  | fuel + 1, _, _, _, h => ⟨h.1, fun i hi => wpOp_mono (fun a' w' h' => wpAny_of_X fuel _ a' w' h'.2) (h.2 i hi)⟩
/-- does the last one wait for number i? -/
def waitsOn (md : Region.Mode) (ops : Array Oper) (L i : Nat) : Bool :=
  match ops[L]? with
  | some o => o.after.any fun e => Region.binds md e && e.on == i
  | none => false
theorem wpAnyX_first {i : Nat} {oi : Oper} {v : Value} (hi : ops[i]? = some oi) (hsel : ∀ (j : Nat) (o : Oper) cs b, ops[j]? = some o → o.op ≠ .select cs b)
    (hQ : ∀ c a w, Q (.panic c) (a.put oi.dst v) w → Q (.panic c) a w) (hL : (waitsOn md ops L i || Nat.ble ops.size L) = true) :
    ∀ (fuel : Nat) (listed : Array Bool) (a : Act) (w : World),
      (∀ j oj, ops[j]? = some oj → j ≠ i → listed.getD j true = false → (∀ e ∈ oj.after, Region.binds md e = true → e.on ≠ i) → oi.apart ops oj = true) →
      i ∈ Region.ready md ops listed → YieldsIf P ops S oi v a → S w →
      wpAnyX P md ops Q S L fuel (listed.setIfInBounds i true) (a.put oi.dst v) w → wpAnyX P md ops Q S L (fuel + 1) listed a w := by
  intro fuel
  induction fuel with
  | zero =>
    intro listed a w _ hr hy hS H
    refine ⟨fun h => (by rw [h] at hr; cases hr), fun j hj => ?_⟩
    by_cases hji : j = i
    · subst hji; exact hy.wpOp hi hS ⟨fun _ => hS, H⟩
    · have := ready_mono hj hji
      rw [H.1] at this
      cases this
  | succ fuel ih =>
    intro listed a w hfree hr hy hS H
    refine ⟨fun h => (by rw [h] at hr; cases hr), fun j hj => ?_⟩
    by_cases hji : j = i
    · subst hji; exact hy.wpOp hi hS ⟨fun _ => hS, H⟩
    · have h1 := H.2 j (ready_mono hj hji)
      obtain ⟨hjun, oj, hoj, hall⟩ := mem_ready.1 hj
      have hnot : ∀ e ∈ oj.after, Region.binds md e = true → e.on ≠ i := fun e he hb heq => by
        have h1 := hall e he hb
        have h0 := (mem_ready.1 hr).1
        rw [heq] at h1
        rcases Nat.lt_or_ge i listed.size with h' | h'
        · simp [h'] at h0 h1; rw [h0] at h1; cases h1
        · simp [Array.getElem?_eq_none h'] at h1
      have hjL : j ≠ L := by
        intro he
        subst he
        have hsz : Nat.ble ops.size j = false := by
          rw [Bool.eq_false_iff]
          intro hb
          have hb := Nat.le_of_ble_eq_true hb
          rw [Array.getElem?_eq_none hb] at hoj
          cases hoj
        rw [hsz, Bool.or_false] at hL
        unfold waitsOn at hL
        rw [hoj] at hL
        simp only at hL
        obtain ⟨e, he, hb⟩ := Array.any_eq_true'.1 hL
        simp only [Bool.and_eq_true, beq_iff_eq] at hb
        exact hnot e he hb.1 hb.2
      have h2 := wpOp_putIf hoj (hfree j oj hoj hji hjun hnot) (fun cs b => hsel i oi cs b hi) (fun cs b => hsel j oj cs b hoj) hQ hy h1
      have hfree' : ∀ k ok, ops[k]? = some ok → k ≠ i → (listed.setIfInBounds j true).getD k true = false →
          (∀ e ∈ ok.after, Region.binds md e = true → e.on ≠ i) → oi.apart ops ok = true := fun k ok hk hki hun hno => by
        refine hfree k ok hk hki ?_ hno
        by_cases hjk : j = k
        · subst hjk; exact hjun
        · rw [getD_set_ne true hjk] at hun; exact hun
      refine wpOp_mono (fun a' w' h3 => ⟨h3.2.1, ih (listed.setIfInBounds j true) a' w' hfree' (ready_mono hr (Ne.symm hji)) h3.1 (h3.2.1 hjL) ?_⟩) h2
      rw [Array.setIfInBounds_comm _ _ hji]
      exact h3.2.2
/-- take number i first -/
theorem wpAnyX_take {i : Nat} {oi : Oper} {v : Value} {fuel : Nat} {listed : Array Bool} {a : Act} {w : World} (hi' : ops.toList[i]? = some oi)
    (hs : Region.noSelect ops = true) (hf : Region.free md ops listed i = true) (hr : (Region.ready md ops listed).contains i = true) (hL : (waitsOn md ops L i || Nat.ble ops.size L) = true)
    (hQ : ∀ c a w, Q (.panic c) (a.put oi.dst v) w → Q (.panic c) a w) (hy : YieldsIf P ops S oi v a) (hS : S w)
    (h : wpAnyX P md ops Q S L fuel (listed.setIfInBounds i true) (a.put oi.dst v) w) : wpAnyX P md ops Q S L (fuel + 1) listed a w :=
  have hi : ops[i]? = some oi := by simpa using hi'
  wpAnyX_first hi (Region.noSelect_spec hs) hQ hL fuel listed a w (Region.free_spec hi hf) (by simpa using hr) hy hS h
/-- take number i first, shortly said -/
theorem wpZ (i : Nat) {oi : Oper} {v : Value} {a' : Act} {fuel : Nat} {listed : Array Bool} {a : Act} {w : World} (hS : S w)
    (h : wpAnyX P md ops Q S L fuel (listed.setIfInBounds i true) a' w)
    (hi' : ops.toList[i]? = some oi := by rfl)
    (hb : (Region.noSelect ops && Region.free md ops listed i && (Region.ready md ops listed).contains i && (waitsOn md ops L i || Nat.ble ops.size L)) = true := by kernel_rfl)
    (hw : Region.wanted oi (yielded ops a.tmps) = true := by rfl)
    (hy : ∀ w, S w → (execOp a.eval oi).run P w = .ok (.value v) w := by intro W hS; (try dsimp only at hS); go_simp; all_goals (with_reducible rfl))
    (he : a.put oi.dst v = a' := by (try simp only [Act.put, zA0, zZ0, zS0]); rfl)
    (hQ : ∀ c a w, Q (.panic c) (a.put oi.dst v) w → Q (.panic c) a w := by exact fun _ _ _ h => h) : wpAnyX P md ops Q S L (fuel + 1) listed a w := by
  subst he
  simp only [Bool.and_eq_true] at hb
  exact wpAnyX_take hi' hb.1.1.1 hb.1.1.2 hb.1.2 hb.2 hQ (Or.inl ⟨hw, hy⟩) hS h
/-- number i alone may come up -/
theorem wpAnyX_step {i : Nat} {o : Oper} {fuel : Nat} {listed : Array Bool} {a : Act} {w : World} (hr : Region.ready md ops listed = [i]) (ho' : ops.toList[i]? = some o) (hiL : (i == L) = false)
    (h : ∀ K : Act → World → Prop, Shut (∀ a' w', S w' → wpAnyX P md ops Q S L fuel (listed.setIfInBounds i true) a' w' → K a' w') → if Region.wanted o (yielded ops a.tmps) = true then Oper.wp P o a w K Q else K (a.put o.dst undef) w) : wpAnyX P md ops Q S L (fuel + 1) listed a w := by
  have ho : ops[i]? = some o := by simpa using ho'
  have hne : i ≠ L := by simpa using hiL
  refine ⟨fun h0 => (by rw [hr] at h0; cases h0), fun j hj => ?_⟩
  rw [hr] at hj
  obtain rfl : j = i := by simpa using hj
  have := h (fun a' w' => (j ≠ L → S w') ∧ wpAnyX P md ops Q S L fuel (listed.setIfInBounds j true) a' w') (fun a' w' h1 h2 => ⟨fun _ => h1, h2⟩)
  unfold wpOp
  simp only [ho]
  split
  · rename_i hw
    rw [if_pos hw] at this
    exact Or.inl this
  · rename_i hw
    rw [if_neg hw] at this
    exact this
theorem wpAnyX_done {fuel : Nat} {listed : Array Bool} {a : Act} {w : World} (hd : Region.ready md ops listed = []) (h : Q .normal a w) : wpAnyX P md ops Q S L fuel listed a w := by
  cases fuel with
  | zero => exact ⟨hd, h⟩
  | succ f => exact ⟨fun _ => h, fun k hk => by rw [hd] at hk; cases hk⟩
/-- the last one -/
theorem wpAnyX_last {i : Nat} {o : Oper} {fuel : Nat} {listed : Array Bool} {a : Act} {w : World} (hr : Region.ready md ops listed = [i]) (ho' : ops.toList[i]? = some o) (hiL : (i == L) = true) (hd : Region.ready md ops (listed.setIfInBounds i true) = [])
    (h : ∀ K : Act → World → Prop, Shut (∀ a' w', Q .normal a' w' → K a' w') → if Region.wanted o (yielded ops a.tmps) = true then Oper.wp P o a w K Q else K (a.put o.dst undef) w) : wpAnyX P md ops Q S L (fuel + 1) listed a w := by
  have ho : ops[i]? = some o := by simpa using ho'
  have he : i = L := by simpa using hiL
  refine ⟨fun h0 => (by rw [hr] at h0; cases h0), fun j hj => ?_⟩
  rw [hr] at hj
  obtain rfl : j = i := by simpa using hj
  have hfin : ∀ f a' w', Q .normal a' w' → wpAnyX P md ops Q S L f (listed.setIfInBounds j true) a' w' := fun f a' w' hq => by
    cases f with
    | zero => exact ⟨hd, hq⟩
    | succ f => exact ⟨fun _ => hq, fun k hk => by rw [hd] at hk; cases hk⟩
  have := h (fun a' w' => (j ≠ L → S w') ∧ wpAnyX P md ops Q S L fuel (listed.setIfInBounds j true) a' w') (fun a' w' h1 => ⟨fun hne => absurd he hne, hfin _ _ _ h1⟩)
  unfold wpOp
  simp only [ho]
  split
  · rename_i hw
    rw [if_pos hw] at this
    exact Or.inl this
  · rename_i hw
    rw [if_neg hw] at this
    exact this
theorem wp_region_X {id : Nat} {a : Act} {w : World} (L : Nat) (S : World → Prop) (hm : P.follows .mixedOrders = true) (hS : S w.drew)
    (h : S w.drew → wpAnyX P .any ops Q S L ops.size (Array.replicate ops.size false) a w.drew) : (Code.region id ops true).wp P Q a w :=
  wp_region_any hm (wpAny_of_X _ _ _ _ (h hS))
end
theorem run_ownK {P : Program} (w : World) (t ty e : TypeId) (i : TypeInfo) (z : Value) (size bytes : Nat) (h1 : P.underlying t = some (.slice e)) (h2 : P.info? e = some i) (h3 : i.zero = some z) (h4 : i.size = size) (h5 : i.bytes = bytes) (h6 : z.cells.size = size) (h7 : 0 < size)
    (base : Nat) (v : Value) (n : Nat) (xs : List Value) (hown : OwnR w base e size v n xs)
    (ad : Addr) (c : Nat) (news : List Value) (hn : news.length = size) (hc : ∀ j u, news[j]? = some u → w.cell? (ad.add j) = some u) (h1c : ∀ u ∈ news, u.oneCell' = true)
    (b1 : n + 1 ≤ maxLen) (b2 : (n + 1) * bytes ≤ 140737488355328) (hbase : base ≤ w.heap.size) :
    ∃ g' o' cap' w', (Builtin.append_ #[t, t] ty #[v, .slice (some ad) 1 c]).run P w = .ok (.slice (some ⟨g', o', none⟩) (n + 1) cap') w' ∧ OwnR w' base e size (.slice (some ⟨g', o', none⟩) (n + 1) cap') (n + 1) (xs ++ news) ∧ AppFr w w' v g' ∧ OwnR w' base e size v n xs := by
  have hn1 : news.length = 1 * size := by omega
  obtain ⟨hl, hown⟩ := hown
  rcases hown with ⟨rfl, rfl⟩ | ⟨g, o, cap, cur, rfl, hbg, hg, hnc, hcm, hcs, hcu⟩
  · obtain rfl : xs = [] := List.eq_nil_of_length_eq_zero (by simpa using hl)
    obtain ⟨v', w', hrun, r1, r2, _⟩ := run_append_own (P := P) w w.heap.size t ty e i z size bytes h1 h2 h3 h4 h5 h6 h7 (.slice none 0 0) 0 [] (World.ownsRow_nil w _ e size) ad 1 c news hn1 hc h1c b1 b2 (Nat.le_refl _)
    rcases r1.2 with ⟨_, hz⟩ | ⟨g, cap, cur, rfl, hbg, hg, _⟩
    · exact absurd hz (by simp)
    · exact ⟨g, 0, cap, w', hrun, OwnR.of_ownsRow r1 hbase, ⟨r2.os, r2.tape, r2.output, r2.size, fun j hj _ => r2.block j hj (by simp [Value.ownBlock]), Or.inr hbg, lt_of_block hg⟩, ⟨by simp, Or.inl ⟨rfl, rfl⟩⟩⟩
  · by_cases hroom : n + 1 ≤ cap
    · subst h4
      have hfit : o + (n + 1) * i.size ≤ cur.size := Nat.le_trans (Nat.add_le_add_left (Nat.mul_le_mul_right _ hroom) o) hcs
      have hex : (n + 1) * i.size = n * i.size + i.size := by rw [Nat.add_mul, Nat.one_mul]
      have hrun := run_append_room_cells (P := P) w t ty e i h1 h2 g o n cap ad 1 c news hn1 hc h1c hroom
        (fun j hj => by rw [cell_of_row w g _ cur e (0, 0) hg]; simp; omega) (fun j _ => frozen_of_row w g _ cur e hg)
      obtain ⟨cur', q1, q2, q3, q4⟩ := heap_setCells_same g e news (o + n * i.size) w cur hg
      have ts := tape_setCells g news (o + n * i.size) w
      refine ⟨g, o, cap, _, hrun, ⟨by rw [List.length_append, hl, hn]; omega, Or.inr ⟨g, o, cap, cur', rfl, hbg, q1, hroom, hcm, by omega, ?_⟩⟩, ⟨ts.2.1, ts.1, ts.2.2.1, by rw [ts.2.2.2]; exact Nat.le_refl _, fun j _ hj => heap_setCells_other g news _ w j (fun h => hj (by simp [Value.ownBlock, h])), Or.inl rfl, lt_of_block q1⟩, ⟨hl, Or.inr ⟨g, o, cap, cur', rfl, hbg, q1, hnc, hcm, by omega, fun j u hj => (q3 _ (by
          have : j < xs.length := by
            rcases Nat.lt_or_ge j xs.length with h | h
            · exact h
            · rw [List.getElem?_eq_none h] at hj; exact absurd hj (by simp)
          omega)).trans (hcu j u hj)⟩⟩⟩
      intro j u hj
      rw [List.getElem?_append] at hj
      split at hj
      · rw [q3 _ (by omega)]; exact hcu j u hj
      · have := q4 (j - xs.length) u hj (by
          have : j - xs.length < news.length := by
            rcases Nat.lt_or_ge (j - xs.length) news.length with h | h
            · exact h
            · rw [List.getElem?_eq_none h] at hj; exact absurd hj (by simp)
          omega)
        rwa [show o + n * i.size + (j - xs.length) = o + j by omega] at this
    · obtain ⟨v', w', hrun, r1, r2⟩ := run_append_arg_grows (P := P) w t ty e i z size bytes h1 h2 h3 h4 h5 h6 h7 ⟨g, o, none⟩ n cap xs hl (fun j u hj => by rw [Addr.add_lit, cell_of_row w g _ cur e (0, 0) hg]; exact hcu j u hj) ad 1 c news hn1 hc (by omega) b1 b2
      rcases r1.2 with ⟨_, hz⟩ | ⟨g', cap', cur', rfl, hbg', hg', _⟩
      · exact absurd hz (by simp)
      · exact ⟨g', 0, cap', w', hrun, OwnR.of_ownsRow r1 hbase, ⟨r2.os, r2.tape, r2.output, r2.size, fun j hj _ => r2.block j hj (by simp), Or.inr hbg', lt_of_block hg'⟩, ⟨hl, Or.inr ⟨g, o, cap, cur, rfl, hbg, (r2.block g (lt_of_block hg) (by simp)).trans hg, hnc, hcm, hcs, hcu⟩⟩⟩
theorem step_ownK {P : Program} {ops : Array Oper} {o : Oper} {a : Act} {w : World} {K : Act → World → Prop} {Q : Exit → Act → World → Prop} {E : Prop}
    (hg : o.guard = none) (s x : Operand) (t : TypeId) (hop : o.op = Op.call { callee := Callee.builtin Builtin.append, args := #[s, x], argTypes := #[t, t] })
    (e : TypeId) (i : TypeInfo) (z : Value) (size bytes : Nat) (h1 : P.underlying t = some (.slice e)) (h2 : P.info? e = some i) (h3 : i.zero = some z) (h4 : i.size = size) (h5 : i.bytes = bytes) (h6 : z.cells.size = size) (h7 : 0 < size)
    (base : Nat) (v : Value) (n : Nat) (xs : List Value) (hs : a.eval s = v) (hown : OwnR w base e size v n xs)
    (ad : Addr) (c : Nat) (news : List Value) (hx : a.eval x = .slice (some ad) 1 c) (hn : news.length = size) (hc : ∀ j u, news[j]? = some u → w.cell? (ad.add j) = some u) (h1c : ∀ u ∈ news, u.oneCell' = true)
    (b1 : n + 1 ≤ maxLen) (b2 : (n + 1) * bytes ≤ 140737488355328) (hbase : base ≤ w.heap.size)
    (hK : ∀ g' o' cap' w', OwnR w' base e size (.slice (some ⟨g', o', none⟩) (n + 1) cap') (n + 1) (xs ++ news) → AppFr w w' v g' → OwnR w' base e size v n xs → K (a.put o.dst (.slice (some ⟨g', o', none⟩) (n + 1) cap')) w') :
    if Region.wanted o (yielded ops a.tmps) = true then Oper.wp P o a w K Q else E := by
  have hw : Region.wanted o (yielded ops a.tmps) = true := by simp [Region.wanted, hg]
  rw [if_pos hw]
  obtain ⟨g', o', cap', w', hrun, r1, r2, r3⟩ := run_ownK (P := P) w t o.type e i z size bytes h1 h2 h3 h4 h5 h6 h7 base v n xs hown ad c news hn hc h1c b1 b2 hbase
  unfold Oper.wp
  simp [execOp, hop, resolve, invoke, builtin, hs, hx, hrun, Result.andThen]
  exact hK g' o' cap' w' r1 r2 r3
theorem OwnR.tagNe {w : World} {base base2 : Nat} {e e2 : TypeId} {size size2 : Nat} {g o n cap : Nat} {v2 : Value} {n2 : Nat} {xs xs2 : List Value} (h : OwnR w base e size (.slice (some ⟨g, o, none⟩) n cap) n xs) (h2 : OwnR w base2 e2 size2 v2 n2 xs2) (hne : e ≠ e2) (he : v2.ownBlock = some g) : False := by
  rcases h.2 with ⟨h1, _⟩ | ⟨g', o', cap', cur, hv, h1, hb, _⟩
  · simp at h1
  · simp only [Value.slice.injEq, Option.some.injEq, Addr.mk.injEq, and_true, true_and] at hv
    obtain ⟨⟨rfl, rfl⟩, rfl⟩ := hv
    exact h2.tag hne hb he
end Go.Proofs.YtilcmkiihefkkabGreatDoor
end
