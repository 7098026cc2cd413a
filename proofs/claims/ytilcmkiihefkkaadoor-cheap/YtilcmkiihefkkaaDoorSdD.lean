import Derived.Test.YtilcmkiihefkkaaDoorSdC
set_option linter.unusedVariables false
set_option linter.unusedSimpArgs false
set_option maxRecDepth 100000
namespace Go.Proofs.YtilcmkiihefkkaaDoor
open Go.RowKit Go.Shelf Go.Lib

/-- what a script costs that ends with a letter, if it is to go on with another -/
def fA (c : C3) (x j : Nat) : Int := pv c j + if x ≠ 0 ∧ x ≠ j then 4 else 0

/-- the least of these -/
def av (c : C3) : Nat → Int
  | 0 => aM c
  | 1 => aI c
  | _ => aD c

theorem bi3 (f : Nat → Int) : bi f 3 = lt3 (f 0) (f 1) (f 2) ∧ f (bi f 3) = min (f 0) (min (f 1) (f 2)) := by
  have e1 : bi f 1 = 0 := by have := bi_lt f 1 (by omega); omega
  have e2 : bi f 2 = if f 1 < f 0 then 1 else 0 := by rw [bi, e1]
  have e3 : bi f 3 = if f 2 < f (bi f 2) then 2 else bi f 2 := by rw [bi]
  by_cases h1 : f 1 < f 0
  · rw [if_pos h1] at e2
    rw [e2] at e3
    by_cases h2 : f 2 < f 1
    · rw [if_pos h2] at e3
      rw [e3]
      unfold lt3
      rw [if_neg (by omega), if_neg (by omega)]
      exact ⟨rfl, by omega⟩
    · rw [if_neg h2] at e3
      rw [e3]
      unfold lt3
      rw [if_neg (by omega), if_pos (by omega)]
      exact ⟨rfl, by omega⟩
  · rw [if_neg h1] at e2
    rw [e2] at e3
    by_cases h2 : f 2 < f 0
    · rw [if_pos h2] at e3
      rw [e3]
      unfold lt3
      rw [if_neg (by omega), if_neg (by omega)]
      exact ⟨rfl, by omega⟩
    · rw [if_neg h2] at e3
      rw [e3]
      unfold lt3
      rw [if_pos (by omega)]
      exact ⟨rfl, by omega⟩

theorem fA_bi (c : C3) (x : Nat) (hx : x ≤ 2) : bi (fA c x) 3 = nx c x ∧ fA c x (bi (fA c x) 3) = av c x := by
  obtain ⟨h1, h2⟩ := bi3 (fA c x)
  rw [h2, h1]
  obtain ⟨m, y, d⟩ := c
  rcases (show x = 0 ∨ x = 1 ∨ x = 2 by omega) with rfl | rfl | rfl
  · simp [fA, pv, nx, av, aM]
  · simp [fA, pv, nx, av, aI]
  · simp [fA, pv, nx, av, aD]

def celA (c : C3) : Array Value := #[.int .i64 c.m, .int .i64 c.i, .int .i64 c.d]

/-- ahead at work -/
def AhI (w wx : World) (f : Nat → Int) (i : Nat) : Prop :=
  wx.heap[w.heap.size + 1]? = some (.cells #[.int .i64 0, .int .i64 0] 53 (0, 0)) ∧
  (∃ cur : Array Value, wx.heap[w.heap.size + 1 + 1]? = some (.cells cur 65 (0, 0)) ∧ cur.size = 6 ∧ ∀ j, j < i → cur[j * 2]? = some (.int .i64 j) ∧ cur[j * 2 + 1]? = some (.int .i64 (f j))) ∧ Below w.heap.size w wx

theorem AhI.any {w wx : World} {f : Nat → Int} {i : Nat} (h : AhI w wx f i) (j : Nat) (hj : j < 6) : (∃ y, wx.cell? ⟨w.heap.size + 1 + 1, j, none⟩ = some y) ∧ wx.frozen? ⟨w.heap.size + 1 + 1, j, none⟩ = false := by
  obtain ⟨_, ⟨cur, h1, h2, _⟩, _⟩ := h
  exact ⟨⟨_, cell_at h1 (Array.getElem?_eq_getElem (by omega))⟩, frozen_of_row _ _ _ _ _ h1⟩

theorem AhI.set {w wx : World} {f : Nat → Int} {i : Nat} (h : AhI w wx f i) (hi : i < 3) (a : Int) (ha : a = f i) (n : Nat) : AhI w (((wx.drewN n).setCell ⟨w.heap.size + 1 + 1, i * 2, none⟩ (.int .i64 i)).setCell ⟨w.heap.size + 1 + 1, i * 2 + 1, none⟩ (.int .i64 a)) f (i + 1) := by
  obtain ⟨h0, ⟨cur, h1, h2, h3⟩, hb⟩ := h
  have h1' : (wx.drewN n).heap[w.heap.size + 1 + 1]? = some (.cells cur 65 (0, 0)) := h1
  have u := (Upd.of_setCell (i := i * 2) (.int .i64 i) h1').setCell (i := i * 2 + 1) (.int .i64 a)
  refine ⟨(u.other _ (by omega)).trans h0, ⟨_, u.here, by simpa using h2, fun j hj => ?_⟩, (((belDrewN hb n).setCell (p := ⟨w.heap.size + 1 + 1, i * 2, none⟩) (show w.heap.size ≤ w.heap.size + 1 + 1 by omega) _).setCell (p := ⟨w.heap.size + 1 + 1, i * 2 + 1, none⟩) (show w.heap.size ≤ w.heap.size + 1 + 1 by omega) _)⟩
  by_cases he : j = i
  · subst he
    subst ha
    exact ⟨by rw [Array.getElem?_setIfInBounds_ne (by omega), Array.getElem?_setIfInBounds_self_of_lt (by omega)], by rw [Array.getElem?_setIfInBounds_self_of_lt (by simp; omega)]⟩
  · rw [Array.getElem?_setIfInBounds_ne (by omega), Array.getElem?_setIfInBounds_ne (by omega), Array.getElem?_setIfInBounds_ne (by omega), Array.getElem?_setIfInBounds_ne (by omega)]
    exact h3 j (by omega)

set_option maxHeartbeats 4000000 in
theorem ahead_any (c : C3) (x : Nat) (hx : x ≤ 2) (w : World) (hc : 0 ≤ c.m ∧ c.m ≤ 2000000000 ∧ 0 ≤ c.i ∧ c.i ≤ 2000000000 ∧ 0 ≤ c.d ∧ c.d ≤ 2000000000) :
    Calls Tryd.prog 22 #[.agg #[.int .i64 c.m, .int .i64 c.i, .int .i64 c.d], .int .i64 x] w fun e w' => e = .returned (.agg #[.int .i64 (nx c x : Nat), .int .i64 (av c x)]) ∧ Below w.heap.size w w' := by
  obtain ⟨b1, b2⟩ := fA_bi c x hx
  rw [← b1, ← b2]
  clear b1 b2
  have HF : Hid (∀ j, fA c x j = pv c j + if x ≠ 0 ∧ x ≠ j then 4 else 0) := fun _ => rfl
  have HV : Hid (pv c 0 = c.m ∧ pv c 1 = c.i ∧ pv c 2 = c.d) := ⟨rfl, rfl, rfl⟩
  generalize fA c x = f at HF ⊢
  obtain ⟨m, y, d⟩ := c
  simp only at hc HV ⊢
  generalize pv ⟨m, y, d⟩ = q at HF HV
  obtain ⟨m1, m2, y1, y2, d1, d2⟩ := hc
  have i0 : ∀ w, (Instr.index 47 (.agg #[.int .i64 m, .int .i64 y, .int .i64 d]) (.int .i64 0)).run Tryd.prog w = .ok (.int .i64 m) w := fun _ => by kernel_rfl
  have i1 : ∀ w, (Instr.index 47 (.agg #[.int .i64 m, .int .i64 y, .int .i64 d]) (.int .i64 1)).run Tryd.prog w = .ok (.int .i64 y) w := fun _ => by kernel_rfl
  have i2 : ∀ w, (Instr.index 47 (.agg #[.int .i64 m, .int .i64 y, .int .i64 d]) (.int .i64 2)).run Tryd.prog w = .ok (.int .i64 d) w := fun _ => by kernel_rfl
  go_enter Tryd.func22, Tryd.ntmps22
  go_wp2_with fail
  have HST : Hid (AhI w (((w.alloc (Obj.cells #[.int .i64 m, .int .i64 y, .int .i64 d] 47)).alloc (Obj.cells #[.int .i64 0, .int .i64 0] 53)).alloc (Obj.cells #[.int .i64 0, .int .i64 0, .int .i64 0, .int .i64 0, .int .i64 0, .int .i64 0] 65)) f 0) := by
    refine ⟨?_, ⟨#[.int .i64 0, .int .i64 0, .int .i64 0, .int .i64 0, .int .i64 0, .int .i64 0], ?_, rfl, fun j hj => absurd hj (by omega)⟩, ?_⟩
    · rw [Below.heap_alloc _ _ _ (by simp)]
      have := heap_alloc_new (w.alloc (Obj.cells #[.int .i64 m, .int .i64 y, .int .i64 d] 47)) (Obj.cells #[.int .i64 0, .int .i64 0] 53)
      have e : (w.alloc (Obj.cells #[.int .i64 m, .int .i64 y, .int .i64 d] 47)).heap.size = w.heap.size + 1 := by simp
      rw [e] at this; exact this
    · have := heap_alloc_new ((w.alloc (Obj.cells #[.int .i64 m, .int .i64 y, .int .i64 d] 47)).alloc (Obj.cells #[.int .i64 0, .int .i64 0] 53)) (Obj.cells #[.int .i64 0, .int .i64 0, .int .i64 0, .int .i64 0, .int .i64 0, .int .i64 0] 65)
      have e : ((w.alloc (Obj.cells #[.int .i64 m, .int .i64 y, .int .i64 d] 47)).alloc (Obj.cells #[.int .i64 0, .int .i64 0] 53)).heap.size = w.heap.size + 1 + 1 := by simp
      rw [e] at this; exact this
    · exact (((Below.refl _ w).alloc (Nat.le_refl _) _).alloc (by simp) _).alloc (by simp; omega) _
  go_loopw [9] (fun iv wx => ∃ i : Nat, i ≤ 3 ∧ iv = .int .i64 i ∧ AhI w wx f i) (fun iv _ => 3 - (intOf iv).toNat)
  case atStart => exact ⟨0, by omega, rfl, HST.out⟩
  case round =>
    clear HST
    obtain ⟨i, hi, rfl, hI⟩ := hrel
    have hF := HF.out i
    obtain ⟨hv0, hv1, hv2⟩ := HV.out
    by_cases hlt : i < 3
    · obtain ⟨⟨v0, t0⟩, z0⟩ := hI.any (i * 2) (by omega)
      obtain ⟨⟨v1, t1⟩, z1⟩ := hI.any (i * 2 + 1) (by omega)
      have HI : Hid (∀ (a : Int) (n : Nat), a = f i → AhI w (((wr.drewN n).setCell ⟨w.heap.size + 1 + 1, i * 2, none⟩ (.int .i64 i)).setCell ⟨w.heap.size + 1 + 1, i * 2 + 1, none⟩ (.int .i64 a)) f (i + 1)) := fun a n ha => hI.set hlt a ha n
      clear hI
      rcases (show i = 0 ∨ i = 1 ∨ i = 2 by omega) with rfl | rfl | rfl
      all_goals first | rw [hv0] at hF | rw [hv1] at hF | rw [hv2] at hF
      all_goals
        rcases (show x = 0 ∨ x = 1 ∨ x = 2 by omega) with rfl | rfl | rfl
        all_goals
          simp at hF
          have HFF := (show Hid _ from hF.symm)
          clear hF hv0 hv1 hv2
          go_wp2_with fail
          go_roundw
          case rel => first | exact ⟨1, by omega, by go_num, HI.out _ 0 HFF.out⟩ | exact ⟨2, by omega, by go_num, HI.out _ 0 HFF.out⟩ | exact ⟨3, by omega, by go_num, HI.out _ 0 HFF.out⟩
          case measure => simp [intOf]
    · have hie : i = 3 := by omega
      subst hie
      obtain ⟨h0, ⟨cur, h1, h2, h3⟩, hb⟩ := hI
      have hlt2 := lt_of_block h1
      have r0 := cell_at h0 (i := 0) rfl
      have r1 := cell_at h0 (i := 1) rfl
      have cM := fun W hg hC => minf_any f (w.heap.size + 1 + 1) W hg hC
      have HC : Hid (∀ j, j < 3 → wr.cell? ⟨w.heap.size + 1 + 1, j * 2, none⟩ = some (.int .i64 j) ∧ wr.cell? ⟨w.heap.size + 1 + 1, j * 2 + 1, none⟩ = some (.int .i64 (f j))) := fun j hj => ⟨cell_at h1 (h3 j hj).1, cell_at h1 (h3 j hj).2⟩
      have HB : Hid (Below w.heap.size w wr) := hb
      have H0 : Hid (wr.heap[w.heap.size + 1]? = some (.cells #[.int .i64 0, .int .i64 0] 53 (0, 0))) := h0
      clear h1 h2 h3 hb h0 hv0 hv1 hv2 hF
      go_wp2_with fail
      refine (cM wr hlt2 HC.out).mono ?_
      rintro e w5 ⟨rfl, hb5⟩
      have H5 : Hid (w5.heap[w.heap.size + 1]? = some (.cells #[.int .i64 0, .int .i64 0] 53 (0, 0))) := (hb5.block _ (by omega)).trans H0.out
      have HB5 : Hid (Below w.heap.size w w5) := HB.out.trans (hb5.mono (by omega))
      have q0 := cell_at H5.out (i := 0) rfl
      have q1 := cell_at H5.out (i := 1) rfl
      have qf : ∀ j, w5.frozen? ⟨w.heap.size + 1, j, none⟩ = false := fun j => frozen_of_row _ _ _ _ _ H5.out
      clear hb5 cM r0 r1 HC HB H0
      obtain ⟨nn, hnn⟩ : ∃ nn, nn = bi f 3 := ⟨_, rfl⟩
      obtain ⟨vv, hvv⟩ : ∃ vv, vv = f nn := ⟨_, rfl⟩
      have HNN : Hid (nn = bi f 3) := hnn
      have HVV : Hid (vv = f nn) := hvv
      rw [← hnn, ← hvv]
      clear hnn hvv
      go_wp2_with fail
      have u := (Upd.of_setCell (i := 0) (.int .i64 nn) H5.out).setCell (i := 1) (.int .i64 vv)
      have HB9 : Hid (Below w.heap.size w ((w5.setCell ⟨w.heap.size + 1, 0, none⟩ (.int .i64 nn)).setCell ⟨w.heap.size + 1, 1, none⟩ (.int .i64 vv))) := ((HB5.out.setCell (p := ⟨w.heap.size + 1, 0, none⟩) (Nat.le_succ _) _).setCell (p := ⟨w.heap.size + 1, 1, none⟩) (Nat.le_succ _) _)
      have hu := u.here
      clear u q0 q1 qf H5 HB5
      generalize ((w5.setCell ⟨w.heap.size + 1, 0, none⟩ (.int .i64 nn)).setCell ⟨w.heap.size + 1, 1, none⟩ (.int .i64 vv)) = w9 at hu HB9 ⊢
      have q0 : w9.cell? ⟨w.heap.size + 1, 0, none⟩ = some (.int .i64 nn) := cell_at hu rfl
      have q1 : w9.cell? ⟨w.heap.size + 1, 1, none⟩ = some (.int .i64 vv) := cell_at hu rfl
      clear hu
      refine bodyPost_ret (by simp [results, Tryd.results22, go_sem, q0, q1]; try rfl) rfl ?_
      refine ⟨?_, HB9.out⟩
      rw [HVV.out, HNN.out]
end Go.Proofs.YtilcmkiihefkkaaDoor
