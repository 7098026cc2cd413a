import Derived.Deep.LoopGhost
import Derived.Test.YtilcmkiihefkkabGreatDoorJk8
section
set_option linter.unusedVariables false
set_option linter.unusedSimpArgs false
set_option maxRecDepth 100000
namespace Go.Proofs.YtilcmkiihefkkabGreatDoor.Mn
open Go.RowKit
theorem Tryz.info124 : (Tryz.prog.info? 124).map (fun i => (i.zero, i.size, i.bytes)) = some (some (.agg #[.int .i64 0, .int .i64 0, .bool false]), 3, 24) := by kernel_rfl
/-- how many words stay when one of a hash is taken in -/
def Stays (L : List W3) (h : Int) (n : Nat) : Prop :=
  n ≤ L.length ∧ (∀ j (hj : j < L.length), n ≤ j → h < L[j].h) ∧ (∀ hj : n - 1 < L.length, 0 < n → ¬ h < L[n - 1].h)
theorem wcells_take (L : List W3) : ∀ n, wcells (L.take n) = (wcells L).take (n * 3) := by
  induction L with
  | nil => intro n; simp [wcells]
  | cons x L ih =>
    intro n
    cases n with
    | zero => simp [wcells]
    | succ n =>
      rw [List.take_succ_cons, wcells_cons, wcells_cons, ih, show (n + 1) * 3 = n * 3 + 1 + 1 + 1 by omega]
      rfl
/-- a prefix of what is owned is owned -/
theorem OwnR.take {w : World} {base g o cap : Nat} {L : List W3} (h : OwnR w base 124 3 (.slice (some ⟨g, o, none⟩) L.length cap) L.length (wcells L)) {n : Nat} (hn : n ≤ L.length) :
    OwnR w base 124 3 (.slice (some ⟨g, o, none⟩) n cap) n (wcells (L.take n)) := by
  obtain ⟨h0, h⟩ := h
  refine ⟨by rw [wcells_length, List.length_take]; congr 1; omega, ?_⟩
  rcases h with ⟨h, _⟩ | ⟨g', o', cap', cur, he, h1, h2, h3, h4, h5, h6⟩
  · simp at h
  · simp only [Value.slice.injEq, Option.some.injEq, Addr.mk.injEq, and_true, true_and] at he
    obtain ⟨⟨rfl, rfl⟩, rfl⟩ := he
    refine Or.inr ⟨g, o, cap, cur, rfl, h1, h2, by omega, h4, h5, ?_⟩
    intro j u hj
    rw [wcells_take, List.getElem?_take] at hj
    split at hj
    · exact h6 j u hj
    · exact absurd hj (by simp)
/-- what a method of the picker leaves alone -/
structure PFr (w w' : World) (v v' : Value) (Bk : Nat) : Prop where
  os : w'.os = w.os
  tape : w'.tape = w.tape
  output : w'.output = w.output
  size : w.heap.size ≤ w'.heap.size
  other : ∀ j, j < w.heap.size → j ≠ Bk → v.ownBlock ≠ some j → w'.heap[j]? = w.heap[j]?
  new : ∀ g, v'.ownBlock = some g → v.ownBlock = some g ∨ w.heap.size ≤ g
theorem box_cells (W : World) (x : W3) (s : Nat) (hs : s = W.heap.size) : ∀ j u, ([.int .i64 x.h, .int .i64 x.p, .bool x.b] : List Value)[j]? = some u → (W.alloc (.cells #[.int .i64 x.h, .int .i64 x.p, .bool x.b] 124)).cell? ((⟨s, 0, none⟩ : Addr).add j) = some u := by
  intro j u hj
  subst hs
  rw [Addr.add_lit, Nat.zero_add]
  refine cell_at (heap_alloc_new W _) ?_
  simpa using hj
theorem word_oneCell (x : W3) : ∀ u ∈ ([.int .i64 x.h, .int .i64 x.p, .bool x.b] : List Value), u.oneCell' = true := by
  intro u hu
  simp at hu
  rcases hu with rfl | rfl | rfl <;> rfl
theorem cell_allocN {w : World} {a : Addr} {v : Value} (h : w.cell? a = some v) (o : Obj) (nq : Nat) : ((w.drewN nq).alloc o).cell? a = some v :=
  (World.cell?_of_block (Below.heap_alloc (w.drewN nq) o _ (block_lt_of_cell h))).trans h
/-- the end of 'add': what the append and the store have left -/
theorem add_end {w wr W w2 : World} {base Bk g' o' cap' n s nq : Nat} {k Wi next run : Int} {x : W3} {ov0 ov pv : Value} {L : List W3}
    (hltB : Bk < w.heap.size) (hov : ∀ j, ov.ownBlock = some j → ov0.ownBlock = some j)
    (hu : Upd (w.alloc (.cells #[.int .i64 x.h, .int .i64 x.p, .bool x.b] 124)) wr Bk (.cells #[.int .i64 k, .int .i64 Wi, .int .i64 next, .int .i64 run, ov, pv] 149 (0, 0)))
    (hW : W = (wr.drewN nq).alloc (.cells #[.int .i64 x.h, .int .i64 x.p, .bool x.b] 124)) (hs : s = n + 1)
    (hB2 : w2.heap[Bk]? = some (.cells #[.int .i64 k, .int .i64 Wi, .int .i64 next, .int .i64 run, ov, pv] 149 (0, 0)))
    (hown : OwnR w2 base 124 3 (.slice (some ⟨g', o', none⟩) s cap') s (wcells L ++ [.int .i64 x.h, .int .i64 x.p, .bool x.b])) (hfr : AppFr W w2 ov g') :
    ∃ ov', OwnR (w2.setCell ⟨Bk, 4, none⟩ (.slice (some ⟨g', o', none⟩) s cap')) base 124 3 ov' (L ++ [x]).length (wcells (L ++ [x])) ∧
      (w2.setCell ⟨Bk, 4, none⟩ (.slice (some ⟨g', o', none⟩) s cap')).heap[Bk]? = some (.cells #[.int .i64 k, .int .i64 Wi, .int .i64 next, .int .i64 run, ov', pv] 149 (0, 0)) ∧
      PFr w (w2.setCell ⟨Bk, 4, none⟩ (.slice (some ⟨g', o', none⟩) s cap')) ov0 ov' Bk := by
  subst hW
  have hlen : s = (L ++ [x]).length := by
    have := hown.1
    rw [List.length_append, wcells_length] at this
    simp at this ⊢
    omega
  have hU := Upd.of_setCell (i := 4) (.slice (some ⟨g', o', none⟩) s cap') hB2
  have hne : (Value.slice (some ⟨g', o', none⟩) s cap').ownBlock ≠ some Bk := hown.tag (by decide) hB2
  have hsz : wr.heap.size = w.heap.size + 1 := by rw [hu.size]; simp
  have hfs := hfr.size
  simp at hfs
  refine ⟨.slice (some ⟨g', o', none⟩) s cap', ?_, hU.here, ⟨?_, ?_, ?_, ?_, ?_, ?_⟩⟩
  · rw [← hlen, wcells_append]
    exact hown.other (fun g hg _ => hU.other g (fun e => hne (by rw [hg, e])))
  · exact hU.os.trans (hfr.os.trans hu.os)
  · exact hU.tape.trans (hfr.tape.trans hu.tape)
  · exact hU.output.trans (hfr.output.trans hu.output)
  · rw [hU.size]
    have : (wr.drewN nq).heap.size = wr.heap.size := rfl
    omega
  · intro j hj hjB hjo
    rw [hU.other j hjB, hfr.other j (by simp; omega) (fun e => hjo (hov j e)), Below.heap_alloc _ _ _ (by show j < wr.heap.size; omega)]
    show wr.heap[j]? = _
    rw [hu.other j hjB, Below.heap_alloc _ _ _ hj]
  · intro g hg
    simp only [Value.ownBlock, Option.some.injEq] at hg
    subst hg
    rcases hfr.new with h | h
    · exact Or.inl (hov _ h)
    · right
      have : wr.heap.size + 1 ≤ g' := by simpa using h
      omega
set_option maxHeartbeats 1000000 in
set_option maxRecDepth 100000 in
theorem add_some (k W next run : Int) (x : W3) (L : List W3) (base Bk g o cap : Nat) (pv : Value) (w : World)
    (hB : w.heap[Bk]? = some (.cells #[.int .i64 k, .int .i64 W, .int .i64 next, .int .i64 run, .slice (some ⟨g, o, none⟩) L.length cap, pv] 149 (0, 0)))
    (hown : OwnR w base 124 3 (.slice (some ⟨g, o, none⟩) L.length cap) L.length (wcells L)) (hbase : base ≤ w.heap.size) (hL : L.length < 4398046511104) :
    Calls Tryz.prog 108 #[.pointer (some ⟨Bk, 0, none⟩), .agg #[.int .i64 x.h, .int .i64 x.p, .bool x.b]] w fun e w' => e = .returned (.tuple #[]) ∧
      ∃ n, Stays L x.h n ∧ ∃ ov', OwnR w' base 124 3 ov' (L.take n ++ [x]).length (wcells (L.take n ++ [x])) ∧ w'.heap[Bk]? = some (.cells #[.int .i64 k, .int .i64 W, .int .i64 next, .int .i64 run, ov', pv] 149 (0, 0)) ∧ PFr w w' (.slice (some ⟨g, o, none⟩) L.length cap) ov' Bk := by
  have hltB := lt_of_block hB
  have hgne : (Value.slice (some ⟨g, o, none⟩) L.length cap).ownBlock ≠ some Bk := hown.tag (by decide) hB
  have hgB : g ≠ Bk := fun e => hgne (by simp [Value.ownBlock, e])
  obtain ⟨cur, hg, hlc, hcap, hcu⟩ : ∃ cur : Array Value, w.heap[g]? = some (.cells cur 124 (0, 0)) ∧ L.length ≤ cap ∧ cap ≤ 9223372036854775807 ∧ ∀ j u, (wcells L)[j]? = some u → cur[o + j]? = some u := by
    rcases hown.2 with ⟨h, _⟩ | ⟨g', o', cap', cur, he, h1, h2, h3, h4, h5, h6⟩
    · simp at h
    · simp only [Value.slice.injEq, Option.some.injEq, Addr.mk.injEq, and_true, true_and] at he
      obtain ⟨⟨rfl, rfl⟩, rfl⟩ := he
      exact ⟨cur, h2, h3, h4, h6⟩
  have hltg := lt_of_block hg
  obtain ⟨i0, hi, hz0, hz1, hz2⟩ := info_parts Tryz.info124
  go_enter Tryz.func108, Tryz.ntmps108
  go_wp2
  go_loopg [] L.length (fun n wr => n ≤ L.length ∧ (∀ j (hj : j < L.length), n ≤ j → x.h < L[j].h) ∧ Upd (w.alloc (.cells #[.int .i64 x.h, .int .i64 x.p, .bool x.b] 124)) wr Bk (.cells #[.int .i64 k, .int .i64 W, .int .i64 next, .int .i64 run, .slice (some ⟨g, o, none⟩) n cap, pv] 149 (0, 0)))
  case atStart =>
    refine ⟨Nat.le_refl _, fun j hj h => absurd h (by omega), ⟨rfl, rfl, rfl, rfl, ?_, fun _ _ => rfl⟩⟩
    rw [Below.heap_alloc _ _ _ hltB]; exact hB
  case round =>
    obtain ⟨hn, hall, hu⟩ := hrel
    have HA : Hid (∀ j (hj : j < L.length), gk ≤ j → x.h < L[j].h) := hall
    clear hall
    have c4 : wr.cell? ⟨Bk, 4, none⟩ = some (.slice (some ⟨g, o, none⟩) gk cap) := cell_at hu.here rfl
    have f4 : wr.frozen? ⟨Bk, 4, none⟩ = false := frozen_of_row wr _ _ _ _ hu.here
    have hbox : wr.heap[w.heap.size]? = some (.cells #[.int .i64 x.h, .int .i64 x.p, .bool x.b] 124 (0, 0)) := by
      rw [hu.other _ (by omega)]; exact heap_alloc_new w _
    have b0 : wr.cell? ⟨w.heap.size, 0, none⟩ = some (.int .i64 x.h) := cell_at hbox rfl
    have b1 : wr.cell? ⟨w.heap.size, 1, none⟩ = some (.int .i64 x.p) := cell_at hbox rfl
    have b2 : wr.cell? ⟨w.heap.size, 2, none⟩ = some (.bool x.b) := cell_at hbox rfl
    have hgr : wr.heap[g]? = some (.cells cur 124 (0, 0)) := by
      rw [hu.other _ hgB, Below.heap_alloc _ _ _ hltg]; exact hg
    have hownr : OwnR wr base 124 3 (.slice (some ⟨g, o, none⟩) gk cap) gk (wcells (L.take gk)) :=
      (hown.take hn).other (fun g' hg' hlt => by
        simp only [Value.ownBlock, Option.some.injEq] at hg'
        subst hg'
        rw [hgr, hg])
    have hszr : wr.heap.size = w.heap.size + 1 := by rw [hu.size]; simp
    have HS : Hid (wr.heap.size = w.heap.size + 1) := hszr
    have ha4 : ∀ nq, ((wr.drewN nq).alloc (.cells #[.int .i64 x.h, .int .i64 x.p, .bool x.b] 124)).cell? ⟨Bk, 4, none⟩ = some (.slice (some ⟨g, o, none⟩) gk cap) := fun nq => cell_allocN c4 _ nq
    clear hszr
    have HU : Hid (Upd (w.alloc (.cells #[.int .i64 x.h, .int .i64 x.p, .bool x.b] 124)) wr Bk (.cells #[.int .i64 k, .int .i64 W, .int .i64 next, .int .i64 run, .slice (some ⟨g, o, none⟩) gk cap, pv] 149 (0, 0))) := hu
    clear hu
    have hlast : 0 < gk → wr.cell? ⟨g, o + (gk - 1) * 3, none⟩ = some (.int .i64 (L[gk - 1]?.getD ⟨0, 0, false⟩).h) := fun h0 => by
      have hk := wcells_at L (gk - 1) (by omega)
      refine cell_at hgr ?_
      rw [Nat.mul_comm, hcu _ _ hk.1, List.getElem?_eq_getElem (by omega)]
      rfl
    clear hbox hgr
    by_cases h0 : 0 < gk
    · have cl := hlast h0
      have hget : (L[gk - 1]?.getD ⟨0, 0, false⟩) = L[gk - 1]'(by omega) := by rw [List.getElem?_eq_getElem (by omega)]; rfl
      rw [hget] at cl
      clear hlast hget
      have h0' : (0 : Int) < gk := by omega
      have hkI : ((gk : Int) - 1).toNat = gk - 1 := by omega
      have hkI2 : 0 ≤ (gk : Int) - 1 := by omega
      have hkI3 : (gk : Int) - 1 < gk := by omega
      by_cases hlt : x.h < L[gk - 1].h
      · have hsl : (gk : Int) - 1 ≤ cap := by omega
        go_wp2
        go_quiet (fail)
        go_wp2
        go_region
        go_wp2
        go_roundg (gk - 1)
        case measure => omega
        case rel =>
          refine ⟨by omega, ?_, (((HU.out.drewN _).drew).setCell _)⟩
          intro j hj h
          by_cases hjk : gk ≤ j
          · exact HA.out j hj hjk
          · obtain rfl : j = gk - 1 := by omega
            exact hlt
      · go_wp2
        go_quiet (fail)
        go_wp2
        go_region_law (refine step_own rfl (.tmp 46) (.tmp 48) 120 rfl 124 i0 _ 3 24 Tryz.underlying120 hi hz0 hz1 hz2 rfl (by decide) base _ gk (wcells (L.take gk)) (by simp [Act.eval, Act.put]; rfl) (by exact hownr.other (fun g _ hlt => Below.heap_alloc (wr.drewN _) _ _ hlt)) ⟨wr.heap.size, 0, none⟩ 1 [.int .i64 x.h, .int .i64 x.p, .bool x.b] (by simp [Act.eval, Act.put]) rfl (by exact box_cells (wr.drewN _) x _ rfl) (word_oneCell x) (by unfold maxLen; omega) (by omega) (by simp; have := HS.out; omega) ?_; intro g' o' cap' w2 hown' hfr; have hB2 : w2.heap[Bk]? = some (.cells #[.int .i64 k, .int .i64 W, .int .i64 next, .int .i64 run, .slice (some ⟨g, o, none⟩) gk cap, pv] 149 (0, 0)) := (hfr.other Bk (by have := HS.out; simp; omega) (by simp [Value.ownBlock]; omega)).trans ((Below.heap_alloc (wr.drewN _) _ _ (by have := HS.out; show Bk < wr.heap.size; omega)).trans HU.out.here); have HB2 : Hid _ := hB2; have q4 := cell_at hB2 (i := 4) rfl; have qf : w2.frozen? ⟨Bk, 4, none⟩ = false := frozen_of_row w2 _ _ _ _ hB2; clear hB2)
        all_goals go_end0
        all_goals exact ⟨rfl, gk, ⟨hn, HA.out, fun _ _ => by omega⟩, add_end (ov := .slice (some ⟨g, o, none⟩) gk cap) hltB (fun j h => by simpa [Value.ownBlock] using h) HU.out rfl rfl HB2.out hown' hfr⟩
    · obtain rfl : gk = 0 := by omega
      clear hlast
      go_wp2
      go_quiet (fail)
      go_wp2
      go_region_law (refine step_own rfl (.tmp 46) (.tmp 48) 120 rfl 124 i0 _ 3 24 Tryz.underlying120 hi hz0 hz1 hz2 rfl (by decide) base _ 0 (wcells (L.take 0)) (by simp [Act.eval, Act.put]; rfl) (by exact hownr.other (fun g _ hlt => Below.heap_alloc (wr.drewN _) _ _ hlt)) ⟨wr.heap.size, 0, none⟩ 1 [.int .i64 x.h, .int .i64 x.p, .bool x.b] (by simp [Act.eval, Act.put]) rfl (by exact box_cells (wr.drewN _) x _ rfl) (word_oneCell x) (by unfold maxLen; omega) (by omega) (by simp; have := HS.out; omega) ?_; intro g' o' cap' w2 hown' hfr; have hB2 : w2.heap[Bk]? = some (.cells #[.int .i64 k, .int .i64 W, .int .i64 next, .int .i64 run, .slice (some ⟨g, o, none⟩) 0 cap, pv] 149 (0, 0)) := (hfr.other Bk (by have := HS.out; simp; omega) (by simp [Value.ownBlock]; omega)).trans ((Below.heap_alloc (wr.drewN _) _ _ (by have := HS.out; show Bk < wr.heap.size; omega)).trans HU.out.here); have HB2 : Hid _ := hB2; have q4 := cell_at hB2 (i := 4) rfl; have qf : w2.frozen? ⟨Bk, 4, none⟩ = false := frozen_of_row w2 _ _ _ _ hB2; clear hB2)
      all_goals go_end0
      all_goals exact ⟨rfl, 0, ⟨hn, HA.out, fun _ h => absurd h (by omega)⟩, add_end (ov := .slice (some ⟨g, o, none⟩) 0 cap) hltB (fun j h => by simpa [Value.ownBlock] using h) HU.out rfl rfl HB2.out hown' hfr⟩
set_option maxHeartbeats 1000000 in
set_option maxRecDepth 100000 in
theorem add_nil (k W next run : Int) (x : W3) (base Bk : Nat) (pv : Value) (w : World)
    (hB : w.heap[Bk]? = some (.cells #[.int .i64 k, .int .i64 W, .int .i64 next, .int .i64 run, .slice none 0 0, pv] 149 (0, 0))) (hbase : base ≤ w.heap.size) :
    Calls Tryz.prog 108 #[.pointer (some ⟨Bk, 0, none⟩), .agg #[.int .i64 x.h, .int .i64 x.p, .bool x.b]] w fun e w' => e = .returned (.tuple #[]) ∧
      ∃ ov', OwnR w' base 124 3 ov' ([] ++ [x]).length (wcells ([] ++ [x])) ∧ w'.heap[Bk]? = some (.cells #[.int .i64 k, .int .i64 W, .int .i64 next, .int .i64 run, ov', pv] 149 (0, 0)) ∧ PFr w w' (.slice none 0 0) ov' Bk := by
  have hltB := lt_of_block hB
  obtain ⟨i0, hi, hz0, hz1, hz2⟩ := info_parts Tryz.info124
  go_enter Tryz.func108, Tryz.ntmps108
  go_wp2
  go_loopg [] 0 (fun n wr => n = 0 ∧ Upd (w.alloc (.cells #[.int .i64 x.h, .int .i64 x.p, .bool x.b] 124)) wr Bk (.cells #[.int .i64 k, .int .i64 W, .int .i64 next, .int .i64 run, .slice none 0 0, pv] 149 (0, 0)))
  case atStart =>
    refine ⟨rfl, ⟨rfl, rfl, rfl, rfl, ?_, fun _ _ => rfl⟩⟩
    rw [Below.heap_alloc _ _ _ hltB]; exact hB
  case round =>
    obtain ⟨_, hu⟩ := hrel
    have c4 : wr.cell? ⟨Bk, 4, none⟩ = some (.slice none 0 0) := cell_at hu.here rfl
    have f4 : wr.frozen? ⟨Bk, 4, none⟩ = false := frozen_of_row wr _ _ _ _ hu.here
    have hbox : wr.heap[w.heap.size]? = some (.cells #[.int .i64 x.h, .int .i64 x.p, .bool x.b] 124 (0, 0)) := by
      rw [hu.other _ (by omega)]; exact heap_alloc_new w _
    have b0 : wr.cell? ⟨w.heap.size, 0, none⟩ = some (.int .i64 x.h) := cell_at hbox rfl
    have b1 : wr.cell? ⟨w.heap.size, 1, none⟩ = some (.int .i64 x.p) := cell_at hbox rfl
    have b2 : wr.cell? ⟨w.heap.size, 2, none⟩ = some (.bool x.b) := cell_at hbox rfl
    have hszr : wr.heap.size = w.heap.size + 1 := by rw [hu.size]; simp
    have HS : Hid (wr.heap.size = w.heap.size + 1) := hszr
    have ha4 : ∀ nq, ((wr.drewN nq).alloc (.cells #[.int .i64 x.h, .int .i64 x.p, .bool x.b] 124)).cell? ⟨Bk, 4, none⟩ = some (.slice none 0 0) := fun nq => cell_allocN c4 _ nq
    clear hszr
    have HU : Hid (Upd (w.alloc (.cells #[.int .i64 x.h, .int .i64 x.p, .bool x.b] 124)) wr Bk (.cells #[.int .i64 k, .int .i64 W, .int .i64 next, .int .i64 run, .slice none 0 0, pv] 149 (0, 0))) := hu
    clear hu hbox
    go_wp2
    go_quiet (fail)
    go_wp2
    go_region_law (refine step_own rfl (.tmp 46) (.tmp 48) 120 rfl 124 i0 _ 3 24 Tryz.underlying120 hi hz0 hz1 hz2 rfl (by decide) base _ 0 (wcells []) (by simp [Act.eval, Act.put]; rfl) (by exact OwnR.nil _ _ _ _) ⟨wr.heap.size, 0, none⟩ 1 [.int .i64 x.h, .int .i64 x.p, .bool x.b] (by simp [Act.eval, Act.put]) rfl (by exact box_cells (wr.drewN _) x _ rfl) (word_oneCell x) (by unfold maxLen; omega) (by omega) (by simp; have := HS.out; omega) ?_; intro g' o' cap' w2 hown' hfr; have hB2 : w2.heap[Bk]? = some (.cells #[.int .i64 k, .int .i64 W, .int .i64 next, .int .i64 run, .slice none 0 0, pv] 149 (0, 0)) := (hfr.other Bk (by have := HS.out; simp; omega) (by simp [Value.ownBlock])).trans ((Below.heap_alloc (wr.drewN _) _ _ (by have := HS.out; show Bk < wr.heap.size; omega)).trans HU.out.here); have HB2 : Hid _ := hB2; have q4 := cell_at hB2 (i := 4) rfl; have qf : w2.frozen? ⟨Bk, 4, none⟩ = false := frozen_of_row w2 _ _ _ _ hB2; clear hB2)
    all_goals go_end0
    all_goals exact ⟨rfl, add_end (L := []) (ov := .slice none 0 0) hltB (fun j h => h) HU.out rfl rfl HB2.out hown' hfr⟩
theorem add_any (k W next run : Int) (x : W3) (L : List W3) (base Bk : Nat) (ov pv : Value) (w : World)
    (hB : w.heap[Bk]? = some (.cells #[.int .i64 k, .int .i64 W, .int .i64 next, .int .i64 run, ov, pv] 149 (0, 0)))
    (hown : OwnR w base 124 3 ov L.length (wcells L)) (hbase : base ≤ w.heap.size) (hL : L.length < 4398046511104) :
    Calls Tryz.prog 108 #[.pointer (some ⟨Bk, 0, none⟩), .agg #[.int .i64 x.h, .int .i64 x.p, .bool x.b]] w fun e w' => e = .returned (.tuple #[]) ∧
      ∃ n, Stays L x.h n ∧ ∃ ov', OwnR w' base 124 3 ov' (L.take n ++ [x]).length (wcells (L.take n ++ [x])) ∧ w'.heap[Bk]? = some (.cells #[.int .i64 k, .int .i64 W, .int .i64 next, .int .i64 run, ov', pv] 149 (0, 0)) ∧ PFr w w' ov ov' Bk := by
  have h := hown.2
  rcases h with ⟨rfl, h0⟩ | ⟨g, o, cap, cur, rfl, _⟩
  · obtain rfl : L = [] := List.eq_nil_of_length_eq_zero h0
    refine (add_nil k W next run x base Bk pv w hB hbase).mono ?_
    rintro e w' ⟨rfl, ov', h1, h2, h3⟩
    exact ⟨rfl, 0, ⟨Nat.le_refl _, fun j hj => absurd hj (by simp), fun hj => absurd hj (by simp)⟩, ov', by simpa using h1, h2, h3⟩
  · exact add_some k W next run x L base Bk g o cap pv w hB hown hbase hL
end Go.Proofs.YtilcmkiihefkkabGreatDoor.Mn
end
section
set_option linter.unusedVariables false
set_option linter.unusedSimpArgs false
set_option maxRecDepth 100000
namespace Go.Proofs.YtilcmkiihefkkabGreatDoor.Mn
open Go.RowKit
/-- the end of 'pick': what the append and the store have left -/
theorem pick_end {w wr W w2 : World} {base Bk g' o' cap' n s nq : Nat} {k Wi next run : Int} {x : W3} {ov0 pv ov : Value} {L : List W3}
    (hltB : Bk < w.heap.size) (hov : ∀ j, pv.ownBlock = some j → ov0.ownBlock = some j)
    (hu : Upd (w.alloc (.cells #[.int .i64 x.h, .int .i64 x.p, .bool x.b] 124)) wr Bk (.cells #[.int .i64 k, .int .i64 Wi, .int .i64 next, .int .i64 run, ov, pv] 149 (0, 0)))
    (hW : W = (wr.drewN nq).alloc (.cells #[.int .i64 x.h, .int .i64 x.p, .bool x.b] 124)) (hs : s = n + 1)
    (hB2 : w2.heap[Bk]? = some (.cells #[.int .i64 k, .int .i64 Wi, .int .i64 next, .int .i64 run, ov, pv] 149 (0, 0)))
    (hown : OwnR w2 base 124 3 (.slice (some ⟨g', o', none⟩) s cap') s (wcells L ++ [.int .i64 x.h, .int .i64 x.p, .bool x.b])) (hfr : AppFr W w2 pv g') :
    ∃ pv', OwnR (w2.setCell ⟨Bk, 5, none⟩ (.slice (some ⟨g', o', none⟩) s cap')) base 124 3 pv' (L ++ [x]).length (wcells (L ++ [x])) ∧
      (w2.setCell ⟨Bk, 5, none⟩ (.slice (some ⟨g', o', none⟩) s cap')).heap[Bk]? = some (.cells #[.int .i64 k, .int .i64 Wi, .int .i64 next, .int .i64 run, ov, pv'] 149 (0, 0)) ∧
      PFr w (w2.setCell ⟨Bk, 5, none⟩ (.slice (some ⟨g', o', none⟩) s cap')) ov0 pv' Bk := by
  subst hW
  have hlen : s = (L ++ [x]).length := by
    have := hown.1
    rw [List.length_append, wcells_length] at this
    simp at this ⊢
    omega
  have hU := Upd.of_setCell (i := 5) (.slice (some ⟨g', o', none⟩) s cap') hB2
  have hne : (Value.slice (some ⟨g', o', none⟩) s cap').ownBlock ≠ some Bk := hown.tag (by decide) hB2
  have hsz : wr.heap.size = w.heap.size + 1 := by rw [hu.size]; simp
  have hfs := hfr.size
  simp at hfs
  refine ⟨.slice (some ⟨g', o', none⟩) s cap', ?_, hU.here, ⟨?_, ?_, ?_, ?_, ?_, ?_⟩⟩
  · rw [← hlen, wcells_append]
    exact hown.other (fun g hg _ => hU.other g (fun e => hne (by rw [hg, e])))
  · exact hU.os.trans (hfr.os.trans hu.os)
  · exact hU.tape.trans (hfr.tape.trans hu.tape)
  · exact hU.output.trans (hfr.output.trans hu.output)
  · rw [hU.size]
    have : (wr.drewN nq).heap.size = wr.heap.size := rfl
    omega
  · intro j hj hjB hjo
    rw [hU.other j hjB, hfr.other j (by simp; omega) (fun e => hjo (hov j e)), Below.heap_alloc _ _ _ (by show j < wr.heap.size; omega)]
    show wr.heap[j]? = _
    rw [hu.other j hjB, Below.heap_alloc _ _ _ hj]
  · intro g hg
    simp only [Value.ownBlock, Option.some.injEq] at hg
    subst hg
    rcases hfr.new with h | h
    · exact Or.inl (hov _ h)
    · right
      have : wr.heap.size + 1 ≤ g' := by simpa using h
      omega
set_option maxHeartbeats 1000000 in
set_option maxRecDepth 100000 in
/-- nothing was picked yet -/
theorem pick_nil (k W next run : Int) (x : W3) (base Bk : Nat) (ov : Value) (ao : Option Addr) (cap : Nat) (w : World)
    (hB : w.heap[Bk]? = some (.cells #[.int .i64 k, .int .i64 W, .int .i64 next, .int .i64 run, ov, .slice ao 0 cap] 149 (0, 0)))
    (hown : OwnR w base 124 3 (.slice ao 0 cap) 0 (wcells [])) (hbase : base ≤ w.heap.size) :
    Calls Tryz.prog 110 #[.pointer (some ⟨Bk, 0, none⟩), .agg #[.int .i64 x.h, .int .i64 x.p, .bool x.b]] w fun e w' => e = .returned (.tuple #[]) ∧
      ∃ pv', OwnR w' base 124 3 pv' ([] ++ [x]).length (wcells ([] ++ [x])) ∧ w'.heap[Bk]? = some (.cells #[.int .i64 k, .int .i64 W, .int .i64 next, .int .i64 run, ov, pv'] 149 (0, 0)) ∧ PFr w w' (.slice ao 0 cap) pv' Bk := by
  have hltB := lt_of_block hB
  have hne : (Value.slice ao 0 cap).ownBlock ≠ some Bk := hown.tag (by decide) hB
  obtain ⟨i0, hi, hz0, hz1, hz2⟩ := info_parts Tryz.info124
  have hBa : (w.alloc (.cells #[.int .i64 x.h, .int .i64 x.p, .bool x.b] 124)).heap[Bk]? = some (.cells #[.int .i64 k, .int .i64 W, .int .i64 next, .int .i64 run, ov, Value.slice ao 0 cap] 149 (0, 0)) := by
    rw [Below.heap_alloc _ _ _ hltB]; exact hB
  have HU : Hid (Upd (w.alloc (.cells #[.int .i64 x.h, .int .i64 x.p, .bool x.b] 124)) (w.alloc (.cells #[.int .i64 x.h, .int .i64 x.p, .bool x.b] 124)) Bk (.cells #[.int .i64 k, .int .i64 W, .int .i64 next, .int .i64 run, ov, Value.slice ao 0 cap] 149 (0, 0))) :=
    ⟨rfl, rfl, rfl, rfl, hBa, fun _ _ => rfl⟩
  have c5 : (w.alloc (.cells #[.int .i64 x.h, .int .i64 x.p, .bool x.b] 124)).cell? ⟨Bk, 5, none⟩ = some (Value.slice ao 0 cap) := cell_at hBa rfl
  have f5 : (w.alloc (.cells #[.int .i64 x.h, .int .i64 x.p, .bool x.b] 124)).frozen? ⟨Bk, 5, none⟩ = false := frozen_of_row _ _ _ _ _ hBa
  have b0 : (w.alloc (.cells #[.int .i64 x.h, .int .i64 x.p, .bool x.b] 124)).cell? ⟨w.heap.size, 0, none⟩ = some (.int .i64 x.h) := cell_at (heap_alloc_new w _) rfl
  have b1 : (w.alloc (.cells #[.int .i64 x.h, .int .i64 x.p, .bool x.b] 124)).cell? ⟨w.heap.size, 1, none⟩ = some (.int .i64 x.p) := cell_at (heap_alloc_new w _) rfl
  have b2 : (w.alloc (.cells #[.int .i64 x.h, .int .i64 x.p, .bool x.b] 124)).cell? ⟨w.heap.size, 2, none⟩ = some (.bool x.b) := cell_at (heap_alloc_new w _) rfl
  have ha4 : ∀ nq, (((w.alloc (.cells #[.int .i64 x.h, .int .i64 x.p, .bool x.b] 124)).drewN nq).alloc (.cells #[.int .i64 x.h, .int .i64 x.p, .bool x.b] 124)).cell? ⟨Bk, 5, none⟩ = some (Value.slice ao 0 cap) := fun nq => cell_allocN c5 _ nq
  have hownr : OwnR (w.alloc (.cells #[.int .i64 x.h, .int .i64 x.p, .bool x.b] 124)) base 124 3 (Value.slice ao 0 cap) 0 (wcells []) := hown.other (fun g _ hlt => Below.heap_alloc _ _ _ hlt)
  have HS : Hid ((w.alloc (.cells #[.int .i64 x.h, .int .i64 x.p, .bool x.b] 124)).heap.size = w.heap.size + 1) := by show _ = _; simp
  clear hBa
  go_enter Tryz.func110, Tryz.ntmps110
  go_wp2
  obtain ⟨wr, hwr⟩ : ∃ wr, wr = w.alloc (.cells #[.int .i64 x.h, .int .i64 x.p, .bool x.b] 124) := ⟨_, rfl⟩
  have HW : Hid (wr = w.alloc (.cells #[.int .i64 x.h, .int .i64 x.p, .bool x.b] 124)) := hwr
  have HU2 : Hid (Upd wr wr Bk (.cells #[.int .i64 k, .int .i64 W, .int .i64 next, .int .i64 run, ov, Value.slice ao 0 cap] 149 (0, 0))) := by rw [hwr]; exact HU
  rw [← hwr]
  rw [← hwr] at c5 f5 b0 b1 b2 hownr HS
  simp only [← hwr] at ha4
  clear HU hwr
  go_quiet (fail)
  go_wp2
  go_region_law (refine step_own rfl (.tmp 30) (.tmp 32) 120 rfl 124 i0 _ 3 24 Tryz.underlying120 hi hz0 hz1 hz2 rfl (by decide) base _ 0 (wcells []) (by simp [Act.eval]; rfl) (by exact hownr.other (fun g _ hlt => Below.heap_alloc (wr.drewN _) _ _ hlt)) ⟨wr.heap.size, 0, none⟩ 1 [.int .i64 x.h, .int .i64 x.p, .bool x.b] (by simp [Act.eval]) rfl (by exact box_cells (wr.drewN _) x _ rfl) (word_oneCell x) (by unfold maxLen; omega) (by omega) (by simp; have := HS.out; omega) ?_; intro g' o' cap' w2 hown' hfr; have hB2 : w2.heap[Bk]? = some (.cells #[.int .i64 k, .int .i64 W, .int .i64 next, .int .i64 run, ov, Value.slice ao 0 cap] 149 (0, 0)) := (hfr.other Bk (by have := HS.out; simp; omega) hne).trans ((Below.heap_alloc (wr.drewN _) _ _ (by have := HS.out; show Bk < wr.heap.size; omega)).trans HU2.out.here); have HB2 : Hid _ := hB2; have q4 := cell_at hB2 (i := 5) rfl; have qf : w2.frozen? ⟨Bk, 5, none⟩ = false := frozen_of_row w2 _ _ _ _ hB2; clear hB2)
  all_goals go_end0
  all_goals exact ⟨rfl, pick_end (L := []) (wr := wr) hltB (fun j h => h) (by have := HU2.out; rw [HW.out] at this ⊢; exact this) rfl rfl HB2.out hown' hfr⟩
set_option maxHeartbeats 1000000 in
set_option maxRecDepth 100000 in
/-- a word stands elsewhere than the last one -/
theorem pick_new (k W next run : Int) (x : W3) (base Bk g o cap : Nat) (ov : Value) (M : List W3) (hM : 0 < M.length) (hM2 : M.length < 4398046511104) (w : World)
    (hB : w.heap[Bk]? = some (.cells #[.int .i64 k, .int .i64 W, .int .i64 next, .int .i64 run, ov, .slice (some ⟨g, o, none⟩) M.length cap] 149 (0, 0)))
    (hown : OwnR w base 124 3 (.slice (some ⟨g, o, none⟩) M.length cap) M.length (wcells M)) (hbase : base ≤ w.heap.size)
    (p1 : Int) (hc : w.cell? ⟨g, o + (M.length - 1) * 3 + 1, none⟩ = some (.int .i64 p1)) (hp : (p1 != x.p) = true) :
    Calls Tryz.prog 110 #[.pointer (some ⟨Bk, 0, none⟩), .agg #[.int .i64 x.h, .int .i64 x.p, .bool x.b]] w fun e w' => e = .returned (.tuple #[]) ∧
      ∃ pv', OwnR w' base 124 3 pv' (M ++ [x]).length (wcells (M ++ [x])) ∧ w'.heap[Bk]? = some (.cells #[.int .i64 k, .int .i64 W, .int .i64 next, .int .i64 run, ov, pv'] 149 (0, 0)) ∧ PFr w w' (.slice (some ⟨g, o, none⟩) M.length cap) pv' Bk := by
  have hltB := lt_of_block hB
  have hne : (Value.slice (some ⟨g, o, none⟩) M.length cap).ownBlock ≠ some Bk := hown.tag (by decide) hB
  obtain ⟨i0, hi, hz0, hz1, hz2⟩ := info_parts Tryz.info124
  have hBa : (w.alloc (.cells #[.int .i64 x.h, .int .i64 x.p, .bool x.b] 124)).heap[Bk]? = some (.cells #[.int .i64 k, .int .i64 W, .int .i64 next, .int .i64 run, ov, Value.slice (some ⟨g, o, none⟩) M.length cap] 149 (0, 0)) := by
    rw [Below.heap_alloc _ _ _ hltB]; exact hB
  have HU : Hid (Upd (w.alloc (.cells #[.int .i64 x.h, .int .i64 x.p, .bool x.b] 124)) (w.alloc (.cells #[.int .i64 x.h, .int .i64 x.p, .bool x.b] 124)) Bk (.cells #[.int .i64 k, .int .i64 W, .int .i64 next, .int .i64 run, ov, Value.slice (some ⟨g, o, none⟩) M.length cap] 149 (0, 0))) :=
    ⟨rfl, rfl, rfl, rfl, hBa, fun _ _ => rfl⟩
  have c5 : (w.alloc (.cells #[.int .i64 x.h, .int .i64 x.p, .bool x.b] 124)).cell? ⟨Bk, 5, none⟩ = some (Value.slice (some ⟨g, o, none⟩) M.length cap) := cell_at hBa rfl
  have f5 : (w.alloc (.cells #[.int .i64 x.h, .int .i64 x.p, .bool x.b] 124)).frozen? ⟨Bk, 5, none⟩ = false := frozen_of_row _ _ _ _ _ hBa
  have b0 : (w.alloc (.cells #[.int .i64 x.h, .int .i64 x.p, .bool x.b] 124)).cell? ⟨w.heap.size, 0, none⟩ = some (.int .i64 x.h) := cell_at (heap_alloc_new w _) rfl
  have b1 : (w.alloc (.cells #[.int .i64 x.h, .int .i64 x.p, .bool x.b] 124)).cell? ⟨w.heap.size, 1, none⟩ = some (.int .i64 x.p) := cell_at (heap_alloc_new w _) rfl
  have b2 : (w.alloc (.cells #[.int .i64 x.h, .int .i64 x.p, .bool x.b] 124)).cell? ⟨w.heap.size, 2, none⟩ = some (.bool x.b) := cell_at (heap_alloc_new w _) rfl
  have ha4 : ∀ nq, (((w.alloc (.cells #[.int .i64 x.h, .int .i64 x.p, .bool x.b] 124)).drewN nq).alloc (.cells #[.int .i64 x.h, .int .i64 x.p, .bool x.b] 124)).cell? ⟨Bk, 5, none⟩ = some (Value.slice (some ⟨g, o, none⟩) M.length cap) := fun nq => cell_allocN c5 _ nq
  have hownr : OwnR (w.alloc (.cells #[.int .i64 x.h, .int .i64 x.p, .bool x.b] 124)) base 124 3 (Value.slice (some ⟨g, o, none⟩) M.length cap) M.length (wcells M) := hown.other (fun g _ hlt => Below.heap_alloc _ _ _ hlt)
  have HS : Hid ((w.alloc (.cells #[.int .i64 x.h, .int .i64 x.p, .bool x.b] 124)).heap.size = w.heap.size + 1) := by show _ = _; simp
  clear hBa
  have cl : (w.alloc (.cells #[.int .i64 x.h, .int .i64 x.p, .bool x.b] 124)).cell? ⟨g, o + (M.length - 1) * 3 + 1, none⟩ = some (.int .i64 p1) :=
    (World.cell?_of_block (Below.heap_alloc w _ _ (block_lt_of_cell hc))).trans hc
  clear hc
  have h0 : ((M.length : Int) == 0) = false := by rw [beq_eq_false_iff_ne]; omega
  have hkI : ((M.length : Int) - 1).toNat = M.length - 1 := by omega
  have hkI2 : 0 ≤ (M.length : Int) - 1 := by omega
  have hkI3 : (M.length : Int) - 1 < M.length := by omega
  go_enter Tryz.func110, Tryz.ntmps110
  go_wp2
  obtain ⟨wr, hwr⟩ : ∃ wr, wr = w.alloc (.cells #[.int .i64 x.h, .int .i64 x.p, .bool x.b] 124) := ⟨_, rfl⟩
  have HW : Hid (wr = w.alloc (.cells #[.int .i64 x.h, .int .i64 x.p, .bool x.b] 124)) := hwr
  have HU2 : Hid (Upd wr wr Bk (.cells #[.int .i64 k, .int .i64 W, .int .i64 next, .int .i64 run, ov, Value.slice (some ⟨g, o, none⟩) M.length cap] 149 (0, 0))) := by rw [hwr]; exact HU
  rw [← hwr]
  rw [← hwr] at cl c5 f5 b0 b1 b2 hownr HS
  simp only [← hwr] at ha4
  clear HU hwr
  go_quiet (fail)
  go_wp2
  go_region_law (refine step_own rfl (.tmp 30) (.tmp 32) 120 rfl 124 i0 _ 3 24 Tryz.underlying120 hi hz0 hz1 hz2 rfl (by decide) base _ M.length (wcells M) (by simp [Act.eval]; rfl) (by exact hownr.other (fun g _ hlt => Below.heap_alloc (wr.drewN _) _ _ hlt)) ⟨wr.heap.size, 0, none⟩ 1 [.int .i64 x.h, .int .i64 x.p, .bool x.b] (by simp [Act.eval]) rfl (by exact box_cells (wr.drewN _) x _ rfl) (word_oneCell x) (by unfold maxLen; omega) (by omega) (by simp; have := HS.out; omega) ?_; intro g' o' cap' w2 hown' hfr; have hB2 : w2.heap[Bk]? = some (.cells #[.int .i64 k, .int .i64 W, .int .i64 next, .int .i64 run, ov, Value.slice (some ⟨g, o, none⟩) M.length cap] 149 (0, 0)) := (hfr.other Bk (by have := HS.out; simp; omega) hne).trans ((Below.heap_alloc (wr.drewN _) _ _ (by have := HS.out; show Bk < wr.heap.size; omega)).trans HU2.out.here); have HB2 : Hid _ := hB2; have q4 := cell_at hB2 (i := 5) rfl; have qf : w2.frozen? ⟨Bk, 5, none⟩ = false := frozen_of_row w2 _ _ _ _ hB2; clear hB2)
  all_goals go_end0
  all_goals exact ⟨rfl, pick_end (wr := wr) hltB (fun j h => h) (by have := HU2.out; rw [HW.out] at this ⊢; exact this) rfl rfl HB2.out hown' hfr⟩
set_option maxHeartbeats 1000000 in
set_option maxRecDepth 100000 in
/-- it is the last one -/
theorem pick_same (k W next run : Int) (x : W3) (base Bk g o cap : Nat) (ov : Value) (M : List W3) (hM : 0 < M.length) (hM2 : M.length < 4398046511104) (w : World)
    (hB : w.heap[Bk]? = some (.cells #[.int .i64 k, .int .i64 W, .int .i64 next, .int .i64 run, ov, .slice (some ⟨g, o, none⟩) M.length cap] 149 (0, 0)))
    (hown : OwnR w base 124 3 (.slice (some ⟨g, o, none⟩) M.length cap) M.length (wcells M)) (hbase : base ≤ w.heap.size)
    (p1 : Int) (hc : w.cell? ⟨g, o + (M.length - 1) * 3 + 1, none⟩ = some (.int .i64 p1)) (hp : (p1 != x.p) = false) :
    Calls Tryz.prog 110 #[.pointer (some ⟨Bk, 0, none⟩), .agg #[.int .i64 x.h, .int .i64 x.p, .bool x.b]] w fun e w' => e = .returned (.tuple #[]) ∧
      OwnR w' base 124 3 (.slice (some ⟨g, o, none⟩) M.length cap) M.length (wcells M) ∧ w'.heap[Bk]? = some (.cells #[.int .i64 k, .int .i64 W, .int .i64 next, .int .i64 run, ov, .slice (some ⟨g, o, none⟩) M.length cap] 149 (0, 0)) ∧ PFr w w' (.slice (some ⟨g, o, none⟩) M.length cap) (.slice (some ⟨g, o, none⟩) M.length cap) Bk := by
  have hltB := lt_of_block hB
  have hne : (Value.slice (some ⟨g, o, none⟩) M.length cap).ownBlock ≠ some Bk := hown.tag (by decide) hB
  obtain ⟨i0, hi, hz0, hz1, hz2⟩ := info_parts Tryz.info124
  have hBa : (w.alloc (.cells #[.int .i64 x.h, .int .i64 x.p, .bool x.b] 124)).heap[Bk]? = some (.cells #[.int .i64 k, .int .i64 W, .int .i64 next, .int .i64 run, ov, Value.slice (some ⟨g, o, none⟩) M.length cap] 149 (0, 0)) := by
    rw [Below.heap_alloc _ _ _ hltB]; exact hB
  have HU : Hid (Upd (w.alloc (.cells #[.int .i64 x.h, .int .i64 x.p, .bool x.b] 124)) (w.alloc (.cells #[.int .i64 x.h, .int .i64 x.p, .bool x.b] 124)) Bk (.cells #[.int .i64 k, .int .i64 W, .int .i64 next, .int .i64 run, ov, Value.slice (some ⟨g, o, none⟩) M.length cap] 149 (0, 0))) :=
    ⟨rfl, rfl, rfl, rfl, hBa, fun _ _ => rfl⟩
  have c5 : (w.alloc (.cells #[.int .i64 x.h, .int .i64 x.p, .bool x.b] 124)).cell? ⟨Bk, 5, none⟩ = some (Value.slice (some ⟨g, o, none⟩) M.length cap) := cell_at hBa rfl
  have f5 : (w.alloc (.cells #[.int .i64 x.h, .int .i64 x.p, .bool x.b] 124)).frozen? ⟨Bk, 5, none⟩ = false := frozen_of_row _ _ _ _ _ hBa
  have b0 : (w.alloc (.cells #[.int .i64 x.h, .int .i64 x.p, .bool x.b] 124)).cell? ⟨w.heap.size, 0, none⟩ = some (.int .i64 x.h) := cell_at (heap_alloc_new w _) rfl
  have b1 : (w.alloc (.cells #[.int .i64 x.h, .int .i64 x.p, .bool x.b] 124)).cell? ⟨w.heap.size, 1, none⟩ = some (.int .i64 x.p) := cell_at (heap_alloc_new w _) rfl
  have b2 : (w.alloc (.cells #[.int .i64 x.h, .int .i64 x.p, .bool x.b] 124)).cell? ⟨w.heap.size, 2, none⟩ = some (.bool x.b) := cell_at (heap_alloc_new w _) rfl
  have ha4 : ∀ nq, (((w.alloc (.cells #[.int .i64 x.h, .int .i64 x.p, .bool x.b] 124)).drewN nq).alloc (.cells #[.int .i64 x.h, .int .i64 x.p, .bool x.b] 124)).cell? ⟨Bk, 5, none⟩ = some (Value.slice (some ⟨g, o, none⟩) M.length cap) := fun nq => cell_allocN c5 _ nq
  have hownr : OwnR (w.alloc (.cells #[.int .i64 x.h, .int .i64 x.p, .bool x.b] 124)) base 124 3 (Value.slice (some ⟨g, o, none⟩) M.length cap) M.length (wcells M) := hown.other (fun g _ hlt => Below.heap_alloc _ _ _ hlt)
  have HS : Hid ((w.alloc (.cells #[.int .i64 x.h, .int .i64 x.p, .bool x.b] 124)).heap.size = w.heap.size + 1) := by show _ = _; simp
  clear hBa
  have cl : (w.alloc (.cells #[.int .i64 x.h, .int .i64 x.p, .bool x.b] 124)).cell? ⟨g, o + (M.length - 1) * 3 + 1, none⟩ = some (.int .i64 p1) :=
    (World.cell?_of_block (Below.heap_alloc w _ _ (block_lt_of_cell hc))).trans hc
  clear hc
  have h0 : ((M.length : Int) == 0) = false := by rw [beq_eq_false_iff_ne]; omega
  have hkI : ((M.length : Int) - 1).toNat = M.length - 1 := by omega
  have hkI2 : 0 ≤ (M.length : Int) - 1 := by omega
  have hkI3 : (M.length : Int) - 1 < M.length := by omega
  go_enter Tryz.func110, Tryz.ntmps110
  go_wp2
  obtain ⟨wr, hwr⟩ : ∃ wr, wr = w.alloc (.cells #[.int .i64 x.h, .int .i64 x.p, .bool x.b] 124) := ⟨_, rfl⟩
  have HW : Hid (wr = w.alloc (.cells #[.int .i64 x.h, .int .i64 x.p, .bool x.b] 124)) := hwr
  have HU2 : Hid (Upd wr wr Bk (.cells #[.int .i64 k, .int .i64 W, .int .i64 next, .int .i64 run, ov, Value.slice (some ⟨g, o, none⟩) M.length cap] 149 (0, 0))) := by rw [hwr]; exact HU
  rw [← hwr]
  rw [← hwr] at cl c5 f5 b0 b1 b2 hownr HS
  simp only [← hwr] at ha4
  clear HU hwr
  go_quiet (fail)
  go_wp2
  go_end0
  refine ⟨rfl, hownr, HU2.out.here, ?_⟩
  have := HW.out
  subst this
  exact ⟨rfl, rfl, rfl, by simp, fun j hj _ _ => Below.heap_alloc w _ j hj, fun g hg => Or.inl hg⟩
end Go.Proofs.YtilcmkiihefkkabGreatDoor.Mn
end
section
set_option linter.unusedVariables false
set_option linter.unusedSimpArgs false
set_option maxRecDepth 100000
namespace Go.Proofs.YtilcmkiihefkkabGreatDoor.Mn
open Go.RowKit
/-- the hash of a code -/
def hashN (k c : Nat) : Nat := (c * 2654435761 % 4 ^ k) ^^^ (c * 2654435761 % 4 ^ k / 2 ^ k)
theorem pow_cases (k : Nat) (h1 : 1 ≤ k) (h2 : k ≤ 12) : (4 : Nat) ^ k ≤ 16777216 ∧ 4 ≤ (4 : Nat) ^ k ∧ (4 : Nat) ^ k = 2 ^ (2 * k) := by
  rcases (show k = 1 ∨ k = 2 ∨ k = 3 ∨ k = 4 ∨ k = 5 ∨ k = 6 ∨ k = 7 ∨ k = 8 ∨ k = 9 ∨ k = 10 ∨ k = 11 ∨ k = 12 by omega) with rfl | rfl | rfl | rfl | rfl | rfl | rfl | rfl | rfl | rfl | rfl | rfl <;> decide
theorem allBits_eq (k : Nat) (h1 : 1 ≤ k) (h2 : k ≤ 12) : IntKind.u64.wrap (IntKind.u64.wrap (2 ^ (2 * k)) - 1) = ((4 ^ k - 1 : Nat) : Int) := by
  rcases (show k = 1 ∨ k = 2 ∨ k = 3 ∨ k = 4 ∨ k = 5 ∨ k = 6 ∨ k = 7 ∨ k = 8 ∨ k = 9 ∨ k = 10 ∨ k = 11 ∨ k = 12 by omega) with rfl | rfl | rfl | rfl | rfl | rfl | rfl | rfl | rfl | rfl | rfl | rfl <;> decide
theorem ret_int {k : IntKind} {a b : Int} (h : a = b) : Ending.returned (.int k a) = .returned (.int k b) := by rw [h]
set_option maxHeartbeats 400000 in
theorem allBits_any (k : Nat) (w : World) (h1 : 1 ≤ k) (h2 : k ≤ 12) :
    Calls Tryz.prog 111 #[.int .i64 k] w fun e w' => e = .returned (.int .u64 ((4 ^ k - 1 : Nat) : Int)) ∧ w' = w := by
  go_enter Tryz.func111, Tryz.ntmps111
  go_wp2
  go_ret
  exact ⟨ret_int (allBits_eq k h1 h2), rfl⟩
theorem mask_eq (k x : Nat) (h1 : 1 ≤ k) (h2 : k ≤ 12) : x &&& (4 ^ k - 1) = x % 4 ^ k := by
  rw [(pow_cases k h1 h2).2.2, Nat.and_two_pow_sub_one_eq_mod]
theorem hash_eq (k c : Nat) (h1 : 1 ≤ k) (h2 : k ≤ 12) (hc : c < 16777216) :
    wrap64 (bits BinOp.xor IntKind.u64 (bits BinOp.and IntKind.u64 ((c : Int) * 2654435761) ((4 ^ k - 1 : Nat) : Int)) (bits BinOp.and IntKind.u64 ((c : Int) * 2654435761) ((4 ^ k - 1 : Nat) : Int) / 2 ^ k)) = ((hashN k c : Nat) : Int) := by
  have hp := pow_cases k h1 h2
  have e1 : ((c : Int) * 2654435761) = ((c * 2654435761 : Nat) : Int) := by omega
  have hA : bits BinOp.and IntKind.u64 ((c : Int) * 2654435761) ((4 ^ k - 1 : Nat) : Int) = ((c * 2654435761 % 4 ^ k : Nat) : Int) := by
    rw [e1, u64_and_nat _ _ (by omega) (by omega), mask_eq k _ h1 h2]
  rw [hA]
  have hlt : c * 2654435761 % 4 ^ k < 4 ^ k := Nat.mod_lt _ (by omega)
  have hd : ((c * 2654435761 % 4 ^ k : Nat) : Int) / 2 ^ k = ((c * 2654435761 % 4 ^ k / 2 ^ k : Nat) : Int) := by rw [Int.natCast_ediv, Int.natCast_pow]; rfl
  have hdl : c * 2654435761 % 4 ^ k / 2 ^ k ≤ c * 2654435761 % 4 ^ k := Nat.div_le_self _ _
  rw [hd, u64_xor_nat _ _ (by omega) (by omega)]
  have hx : (c * 2654435761 % 4 ^ k) ^^^ (c * 2654435761 % 4 ^ k / 2 ^ k) < 2 ^ 24 := Nat.xor_lt_two_pow (by omega) (by omega)
  unfold hashN
  rw [IntWalk.wrap64_in _ ⟨by omega, by omega⟩]
set_option maxHeartbeats 400000 in
theorem hash_any (k c : Nat) (w : World) (h1 : 1 ≤ k) (h2 : k ≤ 12) (hc : c < 16777216) :
    Calls Tryz.prog 109 #[.int .u64 c, .int .i64 k] w fun e w' => e = .returned (.int .i64 (hashN k c : Nat)) ∧ w' = w := by
  go_enter Tryz.func109, Tryz.ntmps109
  go_wp2_with (go_at_call 111; refine (allBits_any _ _ h1 h2).mono ?_; rintro e w' ⟨rfl, rfl⟩)
  go_ret
  exact ⟨ret_int (hash_eq k c h1 h2 hc), rfl⟩
/-- the words that stay when one of a hash is taken in -/
def keepL (L : List W3) (h : Int) : List W3 := (L.reverse.dropWhile (fun y => decide (h < y.h))).reverse
theorem keepL_append_drop (L : List W3) (y : W3) (h : Int) (hy : h < y.h) : keepL (L ++ [y]) h = keepL L h := by
  simp [keepL, hy]
theorem keepL_append_stay (L : List W3) (y : W3) (h : Int) (hy : ¬ h < y.h) : keepL (L ++ [y]) h = L ++ [y] := by
  unfold keepL
  rw [List.reverse_append]
  simp only [List.reverse_cons, List.reverse_nil, List.nil_append, List.singleton_append]
  rw [List.dropWhile_cons_of_neg (by simpa using hy)]
  simp
theorem Stays.take_eq (L : List W3) (h : Int) : ∀ (r : Nat) (n : Nat), Stays L h n → r = L.length - n → L.take n = keepL L h := by
  intro r
  induction r generalizing L with
  | zero =>
    intro n ⟨h1, h2, h3⟩ hr
    have hn : n = L.length := by omega
    subst hn
    rw [List.take_length]
    rcases List.eq_nil_or_concat L with rfl | ⟨L', y, rfl⟩
    · rfl
    · have := h3 (by simp) (by simp)
      simp only [List.concat_eq_append, List.length_append, List.length_cons, List.length_nil, Nat.zero_add, Nat.add_sub_cancel, List.getElem_append_right (Nat.le_refl _), Nat.sub_self, List.getElem_cons_zero] at this ⊢
      rw [keepL_append_stay L' y h this]
  | succ r ih =>
    intro n ⟨h1, h2, h3⟩ hr
    rcases List.eq_nil_or_concat L with rfl | ⟨L', y, rfl⟩
    · simp at hr
    · rw [List.concat_eq_append] at h1 h2 h3 hr ⊢
      have hlen : (L' ++ [y]).length = L'.length + 1 := by simp
      have hy := h2 L'.length (by omega) (by omega)
      rw [List.getElem_append_right (Nat.le_refl _)] at hy
      simp only [Nat.sub_self, List.getElem_cons_zero] at hy
      rw [keepL_append_drop L' y h hy, List.take_append_of_le_length (by omega)]
      refine ih L' n ⟨by omega, ?_, ?_⟩ (by omega)
      · intro j hj hnj
        have := h2 j (by omega) hnj
        rwa [List.getElem_append_left hj] at this
      · intro hj hn
        have := h3 (by omega) hn
        rwa [List.getElem_append_left hj] at this
/-- the words that are picked, when one more stands for a window -/
def pickL (M : List W3) (x : W3) : List W3 :=
  match M.getLast? with
  | none => M ++ [x]
  | some y => if y.p = x.p then M else M ++ [x]
theorem pick_any (k W next run : Int) (x : W3) (base Bk : Nat) (ov pv : Value) (M : List W3) (hM2 : M.length < 4398046511104) (w : World)
    (hB : w.heap[Bk]? = some (.cells #[.int .i64 k, .int .i64 W, .int .i64 next, .int .i64 run, ov, pv] 149 (0, 0)))
    (hown : OwnR w base 124 3 pv M.length (wcells M)) (hbase : base ≤ w.heap.size) :
    Calls Tryz.prog 110 #[.pointer (some ⟨Bk, 0, none⟩), .agg #[.int .i64 x.h, .int .i64 x.p, .bool x.b]] w fun e w' => e = .returned (.tuple #[]) ∧
      ∃ pv', OwnR w' base 124 3 pv' (pickL M x).length (wcells (pickL M x)) ∧ w'.heap[Bk]? = some (.cells #[.int .i64 k, .int .i64 W, .int .i64 next, .int .i64 run, ov, pv'] 149 (0, 0)) ∧ PFr w w' pv pv' Bk := by
  have h := hown.2
  rcases List.eq_nil_or_concat M with rfl | ⟨M', y, hM⟩
  · have e : pickL [] x = [] ++ [x] := rfl
    rw [e]
    rcases h with ⟨rfl, _⟩ | ⟨g, o, cap, cur, rfl, _⟩
    · exact pick_nil k W next run x base Bk ov none 0 w hB hown hbase
    · exact pick_nil k W next run x base Bk ov (some ⟨g, o, none⟩) cap w hB hown hbase
  · rw [List.concat_eq_append] at hM
    have hlen : M.length = M'.length + 1 := by rw [hM]; simp
    have hlast : M.getLast? = some y := by rw [hM]; simp
    have hget : M[M.length - 1]'(by omega) = y := by
      subst hM
      simp
    rcases h with ⟨rfl, h0⟩ | ⟨g, o, cap, cur, rfl, _, hg, _, _, _, hcu⟩
    · omega
    · have hc : w.cell? ⟨g, o + (M.length - 1) * 3 + 1, none⟩ = some (.int .i64 y.p) := by
        have hk := (wcells_at M (M.length - 1) (by omega)).2.1
        rw [hget] at hk
        refine cell_at hg ?_
        have := hcu _ _ hk
        rwa [show o + (M.length - 1) * 3 + 1 = o + (3 * (M.length - 1) + 1) by omega]
      by_cases hp : y.p = x.p
      · have e : pickL M x = M := by simp [pickL, hlast, hp]
        rw [e]
        refine (pick_same k W next run x base Bk g o cap ov M (by omega) hM2 w hB hown hbase y.p hc (by simp [hp])).mono ?_
        rintro e w' ⟨rfl, h1, h2, h3⟩
        exact ⟨rfl, _, h1, h2, h3⟩
      · have e : pickL M x = M ++ [x] := by simp [pickL, hlast, hp]
        rw [e]
        exact pick_new k W next run x base Bk g o cap ov M (by omega) hM2 w hB hown hbase y.p hc (by simp [hp])
/-- where the window has moved to: the words that are still in it -/
def mvL (W : Int) (next place : Int) (L : List W3) : List W3 :=
  if place = next then (match L with | [] => [] | x :: t => if x.p ≤ place - W then t else x :: t) else []
theorem OwnR.cut0 {w : World} {base : Nat} {v : Value} {L : List W3} (h : OwnR w base 124 3 v L.length (wcells L)) : OwnR w base 124 3 (cut0 v) ([] : List W3).length (wcells []) ∧ (Mn.cut0 v).ownBlock = v.ownBlock := by
  obtain ⟨_, h⟩ := h
  rcases h with ⟨rfl, h0⟩ | ⟨g, o, cap, cur, rfl, h1, h2, h3, h4, h5, h6⟩
  · exact ⟨OwnR.nil _ _ _ _, rfl⟩
  · exact ⟨⟨rfl, Or.inr ⟨g, o, cap, cur, rfl, h1, h2, Nat.zero_le _, h4, h5, fun j u hj => by simp [wcells] at hj⟩⟩, rfl⟩
theorem move_any (k W next run place : Int) (L : List W3) (base Bk : Nat) (ov pv : Value) (w : World)
    (hB : w.heap[Bk]? = some (.cells #[.int .i64 k, .int .i64 W, .int .i64 next, .int .i64 run, ov, pv] 149 (0, 0)))
    (hown : OwnR w base 124 3 ov L.length (wcells L))
    (hpl : 0 ≤ place) (hpl2 : place ≤ 140737488351232) (hrun : 0 ≤ run) (hrun2 : run ≤ 140737488351232) (hW : 1 ≤ W) (hW2 : W ≤ 20) :
    Calls Tryz.prog 107 #[.pointer (some ⟨Bk, 0, none⟩), .int .i64 place] w fun e w' => e = .returned (.tuple #[]) ∧ 
       ∃ ov', OwnR w base 124 3 ov' (mvL W next place L).length (wcells (mvL W next place L)) ∧ ov'.ownBlock = ov.ownBlock ∧
       Upd w w' Bk (.cells #[.int .i64 k, .int .i64 W, .int .i64 (place + 1), .int .i64 ((if place = next then run else 0) + 1), ov', pv] 149 (0, 0)) := by
  have h := hown.2
  by_cases heq : place = next
  · have hne : (place != next) = false := by simp [heq]
    rw [if_pos heq]
    cases L with
    | nil =>
      have e : mvL W next place [] = [] := by simp [mvL]
      rw [e]
      rcases h with ⟨rfl, h0⟩ | ⟨g, o, cap, cur, rfl, _⟩
      · refine (move_eq0 k W next run place Bk none 0 pv w hB hpl hpl2 hrun hrun2 hne).mono ?_
        rintro e w' ⟨rfl, hu⟩
        exact ⟨rfl, _, hown, rfl, hu⟩
      · refine (move_eq0 k W next run place Bk _ cap pv w hB hpl hpl2 hrun hrun2 hne).mono ?_
        rintro e w' ⟨rfl, hu⟩
        exact ⟨rfl, _, hown, rfl, hu⟩
    | cons x t =>
      rcases h with ⟨rfl, h0⟩ | ⟨g, o, cap, cur, rfl, h1, h2, h3, h4, h5, h6⟩
      · simp at h0
      · have hgB : g ≠ Bk := fun e => hown.tag (by decide) hB (by simp [Value.ownBlock, e])
        have hc : w.cell? ⟨g, o + 1, none⟩ = some (.int .i64 x.p) := cell_at h2 (h6 1 _ rfl)
        refine (move_eqn k W next run place Bk g o (x :: t).length cap pv w x.p hB (by simp) h3 h4 hc hpl hpl2 hrun hrun2 hW hW2 hne hgB).mono ?_
        rintro e w' ⟨rfl, ov', hov, hu⟩
        refine ⟨rfl, ov', ?_, ?_, hu⟩
        · rcases hov with ⟨hexp, h⟩ | ⟨hexp, rfl⟩
          · have e : mvL W next place (x :: t) = t := by simp only [mvL, if_pos heq, if_pos hexp]
            rw [e]
            refine ⟨wcells_length t, ?_⟩
            have hlen : (x :: t).length = t.length + 1 := rfl
            rcases h with rfl | ⟨hc1, rfl⟩
            · refine Or.inr ⟨g, o + 3, cap - 1, cur, rfl, h1, h2, by omega, by omega, by omega, ?_⟩
              intro j u hj
              have := h6 (j + 3) u (by rw [wcells_cons]; exact hj)
              rwa [show o + 3 + j = o + (j + 3) by omega]
            · have ht : t = [] := List.eq_nil_of_length_eq_zero (by omega)
              subst ht
              exact Or.inr ⟨g, o, 0, cur, rfl, h1, h2, Nat.le_refl _, Nat.zero_le _, by omega, fun j u hj => by simp [wcells] at hj⟩
          · have e : mvL W next place (x :: t) = x :: t := by simp only [mvL, if_pos heq, if_neg hexp]
            rw [e]
            exact hown
        · rcases hov with ⟨hexp, h⟩ | ⟨hexp, rfl⟩
          · rcases h with rfl | ⟨_, rfl⟩ <;> rfl
          · rfl
  · have hne : (place != next) = true := by simp [heq]
    rw [if_neg heq]
    have e : mvL W next place L = [] := by simp only [mvL, if_neg heq]
    rw [e]
    refine (move_ne k W next run place Bk ov pv w (by rcases h with ⟨rfl, _⟩ | ⟨g, o, cap, cur, rfl, _⟩; exact Or.inl rfl; exact Or.inr ⟨_, _, _, rfl⟩) hB hpl hpl2 hne).mono ?_
    rintro e w' ⟨rfl, hu⟩
    exact ⟨rfl, _, hown.cut0.1, hown.cut0.2, hu⟩
end Go.Proofs.YtilcmkiihefkkabGreatDoor.Mn
end
