import Derived.Test.YtilcmkiihefkkaaPick
import Derived.Deep.LoopGhost
set_option linter.unusedVariables false
set_option linter.unusedSimpArgs false
set_option maxRecDepth 100000
namespace Go.Proofs.Ytilcmkiihefkkaa
open Go.RowKit

theorem Try.info50 : (Try.prog.info? 50).map (fun i => (i.zero, i.size, i.bytes)) = some (some (.agg #[.int .i64 0, .int .i64 0, .bool false]), 3, 24) := by kernel_rfl

/-- how many words stay when one of a hash is taken in -/
def Stays (L : List W3) (h : Int) (n : Nat) : Prop :=
  n ≤ L.length ∧ (∀ j (hj : j < L.length), n ≤ j → h < L[j].h) ∧ (∀ hj : n - 1 < L.length, 0 < n → ¬ h < L[n - 1].h)

theorem wcells_take (L : List W3) : ∀ n, wcells (L.take n) = (wcells L).take (n * 3) := by
  induction L with
  | nil => intro n; simp [wcells]
  | cons x L ih =>
    intro n
    cases n with
    | zero => simp [wcells]
    | succ n =>
      rw [List.take_succ_cons, wcells_cons, wcells_cons, ih, show (n + 1) * 3 = n * 3 + 1 + 1 + 1 by omega]
      rfl

/-- a prefix of what is owned is owned -/
theorem OwnR.take {w : World} {base g o cap : Nat} {L : List W3} (h : OwnR w base 50 3 (.slice (some ⟨g, o, none⟩) L.length cap) L.length (wcells L)) {n : Nat} (hn : n ≤ L.length) :
    OwnR w base 50 3 (.slice (some ⟨g, o, none⟩) n cap) n (wcells (L.take n)) := by
  obtain ⟨h0, h⟩ := h
  refine ⟨by rw [wcells_length, List.length_take]; congr 1; omega, ?_⟩
  rcases h with ⟨h, _⟩ | ⟨g', o', cap', cur, he, h1, h2, h3, h4, h5, h6⟩
  · simp at h
  · simp only [Value.slice.injEq, Option.some.injEq, Addr.mk.injEq, and_true, true_and] at he
    obtain ⟨⟨rfl, rfl⟩, rfl⟩ := he
    refine Or.inr ⟨g, o, cap, cur, rfl, h1, h2, by omega, h4, h5, ?_⟩
    intro j u hj
    rw [wcells_take, List.getElem?_take] at hj
    split at hj
    · exact h6 j u hj
    · exact absurd hj (by simp)

/-- what a method of the picker leaves alone -/
structure PFr (w w' : World) (v v' : Value) (Bk : Nat) : Prop where
  os : w'.os = w.os
  tape : w'.tape = w.tape
  output : w'.output = w.output
  size : w.heap.size ≤ w'.heap.size
  other : ∀ j, j < w.heap.size → j ≠ Bk → v.ownBlock ≠ some j → w'.heap[j]? = w.heap[j]?
  new : ∀ g, v'.ownBlock = some g → v.ownBlock = some g ∨ w.heap.size ≤ g

theorem box_cells (W : World) (x : W3) (s : Nat) (hs : s = W.heap.size) : ∀ j u, ([.int .i64 x.h, .int .i64 x.p, .bool x.b] : List Value)[j]? = some u → (W.alloc (.cells #[.int .i64 x.h, .int .i64 x.p, .bool x.b] 50)).cell? ((⟨s, 0, none⟩ : Addr).add j) = some u := by
  intro j u hj
  subst hs
  rw [Addr.add_lit, Nat.zero_add]
  refine cell_at (heap_alloc_new W _) ?_
  simpa using hj

theorem word_oneCell (x : W3) : ∀ u ∈ ([.int .i64 x.h, .int .i64 x.p, .bool x.b] : List Value), u.oneCell' = true := by
  intro u hu
  simp at hu
  rcases hu with rfl | rfl | rfl <;> rfl

theorem cell_allocN {w : World} {a : Addr} {v : Value} (h : w.cell? a = some v) (o : Obj) (nq : Nat) : ((w.drewN nq).alloc o).cell? a = some v :=
  (World.cell?_of_block (Below.heap_alloc (w.drewN nq) o _ (block_lt_of_cell h))).trans h

/-- the end of 'add': what the append and the store have left -/
theorem add_end {w wr W w2 : World} {base Bk g' o' cap' n s nq : Nat} {k Wi next run : Int} {x : W3} {ov0 ov pv : Value} {L : List W3}
    (hltB : Bk < w.heap.size) (hov : ∀ j, ov.ownBlock = some j → ov0.ownBlock = some j)
    (hu : Upd (w.alloc (.cells #[.int .i64 x.h, .int .i64 x.p, .bool x.b] 50)) wr Bk (.cells #[.int .i64 k, .int .i64 Wi, .int .i64 next, .int .i64 run, ov, pv] 103 (0, 0)))
    (hW : W = (wr.drewN nq).alloc (.cells #[.int .i64 x.h, .int .i64 x.p, .bool x.b] 50)) (hs : s = n + 1)
    (hB2 : w2.heap[Bk]? = some (.cells #[.int .i64 k, .int .i64 Wi, .int .i64 next, .int .i64 run, ov, pv] 103 (0, 0)))
    (hown : OwnR w2 base 50 3 (.slice (some ⟨g', o', none⟩) s cap') s (wcells L ++ [.int .i64 x.h, .int .i64 x.p, .bool x.b])) (hfr : AppFr W w2 ov g') :
    ∃ ov', OwnR (w2.setCell ⟨Bk, 4, none⟩ (.slice (some ⟨g', o', none⟩) s cap')) base 50 3 ov' (L ++ [x]).length (wcells (L ++ [x])) ∧
      (w2.setCell ⟨Bk, 4, none⟩ (.slice (some ⟨g', o', none⟩) s cap')).heap[Bk]? = some (.cells #[.int .i64 k, .int .i64 Wi, .int .i64 next, .int .i64 run, ov', pv] 103 (0, 0)) ∧
      PFr w (w2.setCell ⟨Bk, 4, none⟩ (.slice (some ⟨g', o', none⟩) s cap')) ov0 ov' Bk := by
  subst hW
  have hlen : s = (L ++ [x]).length := by
    have := hown.1
    rw [List.length_append, wcells_length] at this
    simp at this ⊢
    omega
  have hU := Upd.of_setCell (i := 4) (.slice (some ⟨g', o', none⟩) s cap') hB2
  have hne : (Value.slice (some ⟨g', o', none⟩) s cap').ownBlock ≠ some Bk := hown.tag (by decide) hB2
  have hsz : wr.heap.size = w.heap.size + 1 := by rw [hu.size]; simp
  have hfs := hfr.size
  simp at hfs
  refine ⟨.slice (some ⟨g', o', none⟩) s cap', ?_, hU.here, ⟨?_, ?_, ?_, ?_, ?_, ?_⟩⟩
  · rw [← hlen, wcells_append]
    exact hown.other (fun g hg _ => hU.other g (fun e => hne (by rw [hg, e])))
  · exact hU.os.trans (hfr.os.trans hu.os)
  · exact hU.tape.trans (hfr.tape.trans hu.tape)
  · exact hU.output.trans (hfr.output.trans hu.output)
  · rw [hU.size]
    have : (wr.drewN nq).heap.size = wr.heap.size := rfl
    omega
  · intro j hj hjB hjo
    rw [hU.other j hjB, hfr.other j (by simp; omega) (fun e => hjo (hov j e)), Below.heap_alloc _ _ _ (by show j < wr.heap.size; omega)]
    show wr.heap[j]? = _
    rw [hu.other j hjB, Below.heap_alloc _ _ _ hj]
  · intro g hg
    simp only [Value.ownBlock, Option.some.injEq] at hg
    subst hg
    rcases hfr.new with h | h
    · exact Or.inl (hov _ h)
    · right
      have : wr.heap.size + 1 ≤ g' := by simpa using h
      omega

set_option maxHeartbeats 1000000 in
set_option maxRecDepth 100000 in
theorem add_some (k W next run : Int) (x : W3) (L : List W3) (base Bk g o cap : Nat) (pv : Value) (w : World)
    (hB : w.heap[Bk]? = some (.cells #[.int .i64 k, .int .i64 W, .int .i64 next, .int .i64 run, .slice (some ⟨g, o, none⟩) L.length cap, pv] 103 (0, 0)))
    (hown : OwnR w base 50 3 (.slice (some ⟨g, o, none⟩) L.length cap) L.length (wcells L)) (hbase : base ≤ w.heap.size) (hL : L.length < 4398046511104) :
    Calls Try.prog 59 #[.pointer (some ⟨Bk, 0, none⟩), .agg #[.int .i64 x.h, .int .i64 x.p, .bool x.b]] w fun e w' => e = .returned (.tuple #[]) ∧
      ∃ n, Stays L x.h n ∧ ∃ ov', OwnR w' base 50 3 ov' (L.take n ++ [x]).length (wcells (L.take n ++ [x])) ∧ w'.heap[Bk]? = some (.cells #[.int .i64 k, .int .i64 W, .int .i64 next, .int .i64 run, ov', pv] 103 (0, 0)) ∧ PFr w w' (.slice (some ⟨g, o, none⟩) L.length cap) ov' Bk := by
  have hltB := lt_of_block hB
  have hgne : (Value.slice (some ⟨g, o, none⟩) L.length cap).ownBlock ≠ some Bk := hown.tag (by decide) hB
  have hgB : g ≠ Bk := fun e => hgne (by simp [Value.ownBlock, e])
  obtain ⟨cur, hg, hlc, hcap, hcu⟩ : ∃ cur : Array Value, w.heap[g]? = some (.cells cur 50 (0, 0)) ∧ L.length ≤ cap ∧ cap ≤ 9223372036854775807 ∧ ∀ j u, (wcells L)[j]? = some u → cur[o + j]? = some u := by
    rcases hown.2 with ⟨h, _⟩ | ⟨g', o', cap', cur, he, h1, h2, h3, h4, h5, h6⟩
    · simp at h
    · simp only [Value.slice.injEq, Option.some.injEq, Addr.mk.injEq, and_true, true_and] at he
      obtain ⟨⟨rfl, rfl⟩, rfl⟩ := he
      exact ⟨cur, h2, h3, h4, h6⟩
  have hltg := lt_of_block hg
  obtain ⟨i0, hi, hz0, hz1, hz2⟩ := info_parts Try.info50
  go_enter Try.func59, Try.ntmps59
  go_wp2
  go_loopg [] L.length (fun n wr => n ≤ L.length ∧ (∀ j (hj : j < L.length), n ≤ j → x.h < L[j].h) ∧ Upd (w.alloc (.cells #[.int .i64 x.h, .int .i64 x.p, .bool x.b] 50)) wr Bk (.cells #[.int .i64 k, .int .i64 W, .int .i64 next, .int .i64 run, .slice (some ⟨g, o, none⟩) n cap, pv] 103 (0, 0)))
  case atStart =>
    refine ⟨Nat.le_refl _, fun j hj h => absurd h (by omega), ⟨rfl, rfl, rfl, rfl, ?_, fun _ _ => rfl⟩⟩
    rw [Below.heap_alloc _ _ _ hltB]; exact hB
  case round =>
    obtain ⟨hn, hall, hu⟩ := hrel
    have HA : Hid (∀ j (hj : j < L.length), gk ≤ j → x.h < L[j].h) := hall
    clear hall
    have c4 : wr.cell? ⟨Bk, 4, none⟩ = some (.slice (some ⟨g, o, none⟩) gk cap) := cell_at hu.here rfl
    have f4 : wr.frozen? ⟨Bk, 4, none⟩ = false := frozen_of_row wr _ _ _ _ hu.here
    have hbox : wr.heap[w.heap.size]? = some (.cells #[.int .i64 x.h, .int .i64 x.p, .bool x.b] 50 (0, 0)) := by
      rw [hu.other _ (by omega)]; exact heap_alloc_new w _
    have b0 : wr.cell? ⟨w.heap.size, 0, none⟩ = some (.int .i64 x.h) := cell_at hbox rfl
    have b1 : wr.cell? ⟨w.heap.size, 1, none⟩ = some (.int .i64 x.p) := cell_at hbox rfl
    have b2 : wr.cell? ⟨w.heap.size, 2, none⟩ = some (.bool x.b) := cell_at hbox rfl
    have hgr : wr.heap[g]? = some (.cells cur 50 (0, 0)) := by
      rw [hu.other _ hgB, Below.heap_alloc _ _ _ hltg]; exact hg
    have hownr : OwnR wr base 50 3 (.slice (some ⟨g, o, none⟩) gk cap) gk (wcells (L.take gk)) :=
      (hown.take hn).other (fun g' hg' hlt => by
        simp only [Value.ownBlock, Option.some.injEq] at hg'
        subst hg'
        rw [hgr, hg])
    have hszr : wr.heap.size = w.heap.size + 1 := by rw [hu.size]; simp
    have HS : Hid (wr.heap.size = w.heap.size + 1) := hszr
    have ha4 : ∀ nq, ((wr.drewN nq).alloc (.cells #[.int .i64 x.h, .int .i64 x.p, .bool x.b] 50)).cell? ⟨Bk, 4, none⟩ = some (.slice (some ⟨g, o, none⟩) gk cap) := fun nq => cell_allocN c4 _ nq
    clear hszr
    have HU : Hid (Upd (w.alloc (.cells #[.int .i64 x.h, .int .i64 x.p, .bool x.b] 50)) wr Bk (.cells #[.int .i64 k, .int .i64 W, .int .i64 next, .int .i64 run, .slice (some ⟨g, o, none⟩) gk cap, pv] 103 (0, 0))) := hu
    clear hu
    have hlast : 0 < gk → wr.cell? ⟨g, o + (gk - 1) * 3, none⟩ = some (.int .i64 (L[gk - 1]?.getD ⟨0, 0, false⟩).h) := fun h0 => by
      have hk := wcells_at L (gk - 1) (by omega)
      refine cell_at hgr ?_
      rw [Nat.mul_comm, hcu _ _ hk.1, List.getElem?_eq_getElem (by omega)]
      rfl
    clear hbox hgr
    by_cases h0 : 0 < gk
    · have cl := hlast h0
      have hget : (L[gk - 1]?.getD ⟨0, 0, false⟩) = L[gk - 1]'(by omega) := by rw [List.getElem?_eq_getElem (by omega)]; rfl
      rw [hget] at cl
      clear hlast hget
      have h0' : (0 : Int) < gk := by omega
      have hkI : ((gk : Int) - 1).toNat = gk - 1 := by omega
      have hkI2 : 0 ≤ (gk : Int) - 1 := by omega
      have hkI3 : (gk : Int) - 1 < gk := by omega
      by_cases hlt : x.h < L[gk - 1].h
      · have hsl : (gk : Int) - 1 ≤ cap := by omega
        go_wp2
        go_quiet (fail)
        go_wp2
        go_region
        go_wp2
        go_roundg (gk - 1)
        case measure => omega
        case rel =>
          refine ⟨by omega, ?_, (((HU.out.drewN _).drew).setCell _)⟩
          intro j hj h
          by_cases hjk : gk ≤ j
          · exact HA.out j hj hjk
          · obtain rfl : j = gk - 1 := by omega
            exact hlt
      · go_wp2
        go_quiet (fail)
        go_wp2
        go_region_law (refine step_own rfl (.tmp 46) (.tmp 48) 40 rfl 50 i0 _ 3 24 Try.underlying40 hi hz0 hz1 hz2 rfl (by decide) base _ gk (wcells (L.take gk)) (by simp [Act.eval, Act.put]; rfl) (by exact hownr.other (fun g _ hlt => Below.heap_alloc (wr.drewN _) _ _ hlt)) ⟨wr.heap.size, 0, none⟩ 1 [.int .i64 x.h, .int .i64 x.p, .bool x.b] (by simp [Act.eval, Act.put]) rfl (by exact box_cells (wr.drewN _) x _ rfl) (word_oneCell x) (by unfold maxLen; omega) (by omega) (by simp; have := HS.out; omega) ?_; intro g' o' cap' w2 hown' hfr; have hB2 : w2.heap[Bk]? = some (.cells #[.int .i64 k, .int .i64 W, .int .i64 next, .int .i64 run, .slice (some ⟨g, o, none⟩) gk cap, pv] 103 (0, 0)) := (hfr.other Bk (by have := HS.out; simp; omega) (by simp [Value.ownBlock]; omega)).trans ((Below.heap_alloc (wr.drewN _) _ _ (by have := HS.out; show Bk < wr.heap.size; omega)).trans HU.out.here); have HB2 : Hid _ := hB2; have q4 := cell_at hB2 (i := 4) rfl; have qf : w2.frozen? ⟨Bk, 4, none⟩ = false := frozen_of_row w2 _ _ _ _ hB2; clear hB2)
        all_goals go_end0
        all_goals exact ⟨rfl, gk, ⟨hn, HA.out, fun _ _ => by omega⟩, add_end (ov := .slice (some ⟨g, o, none⟩) gk cap) hltB (fun j h => by simpa [Value.ownBlock] using h) HU.out rfl rfl HB2.out hown' hfr⟩
    · obtain rfl : gk = 0 := by omega
      clear hlast
      go_wp2
      go_quiet (fail)
      go_wp2
      go_region_law (refine step_own rfl (.tmp 46) (.tmp 48) 40 rfl 50 i0 _ 3 24 Try.underlying40 hi hz0 hz1 hz2 rfl (by decide) base _ 0 (wcells (L.take 0)) (by simp [Act.eval, Act.put]; rfl) (by exact hownr.other (fun g _ hlt => Below.heap_alloc (wr.drewN _) _ _ hlt)) ⟨wr.heap.size, 0, none⟩ 1 [.int .i64 x.h, .int .i64 x.p, .bool x.b] (by simp [Act.eval, Act.put]) rfl (by exact box_cells (wr.drewN _) x _ rfl) (word_oneCell x) (by unfold maxLen; omega) (by omega) (by simp; have := HS.out; omega) ?_; intro g' o' cap' w2 hown' hfr; have hB2 : w2.heap[Bk]? = some (.cells #[.int .i64 k, .int .i64 W, .int .i64 next, .int .i64 run, .slice (some ⟨g, o, none⟩) 0 cap, pv] 103 (0, 0)) := (hfr.other Bk (by have := HS.out; simp; omega) (by simp [Value.ownBlock]; omega)).trans ((Below.heap_alloc (wr.drewN _) _ _ (by have := HS.out; show Bk < wr.heap.size; omega)).trans HU.out.here); have HB2 : Hid _ := hB2; have q4 := cell_at hB2 (i := 4) rfl; have qf : w2.frozen? ⟨Bk, 4, none⟩ = false := frozen_of_row w2 _ _ _ _ hB2; clear hB2)
      all_goals go_end0
      all_goals exact ⟨rfl, 0, ⟨hn, HA.out, fun _ h => absurd h (by omega)⟩, add_end (ov := .slice (some ⟨g, o, none⟩) 0 cap) hltB (fun j h => by simpa [Value.ownBlock] using h) HU.out rfl rfl HB2.out hown' hfr⟩

set_option maxHeartbeats 1000000 in
set_option maxRecDepth 100000 in
theorem add_nil (k W next run : Int) (x : W3) (base Bk : Nat) (pv : Value) (w : World)
    (hB : w.heap[Bk]? = some (.cells #[.int .i64 k, .int .i64 W, .int .i64 next, .int .i64 run, .slice none 0 0, pv] 103 (0, 0))) (hbase : base ≤ w.heap.size) :
    Calls Try.prog 59 #[.pointer (some ⟨Bk, 0, none⟩), .agg #[.int .i64 x.h, .int .i64 x.p, .bool x.b]] w fun e w' => e = .returned (.tuple #[]) ∧
      ∃ ov', OwnR w' base 50 3 ov' ([] ++ [x]).length (wcells ([] ++ [x])) ∧ w'.heap[Bk]? = some (.cells #[.int .i64 k, .int .i64 W, .int .i64 next, .int .i64 run, ov', pv] 103 (0, 0)) ∧ PFr w w' (.slice none 0 0) ov' Bk := by
  have hltB := lt_of_block hB
  obtain ⟨i0, hi, hz0, hz1, hz2⟩ := info_parts Try.info50
  go_enter Try.func59, Try.ntmps59
  go_wp2
  go_loopg [] 0 (fun n wr => n = 0 ∧ Upd (w.alloc (.cells #[.int .i64 x.h, .int .i64 x.p, .bool x.b] 50)) wr Bk (.cells #[.int .i64 k, .int .i64 W, .int .i64 next, .int .i64 run, .slice none 0 0, pv] 103 (0, 0)))
  case atStart =>
    refine ⟨rfl, ⟨rfl, rfl, rfl, rfl, ?_, fun _ _ => rfl⟩⟩
    rw [Below.heap_alloc _ _ _ hltB]; exact hB
  case round =>
    obtain ⟨_, hu⟩ := hrel
    have c4 : wr.cell? ⟨Bk, 4, none⟩ = some (.slice none 0 0) := cell_at hu.here rfl
    have f4 : wr.frozen? ⟨Bk, 4, none⟩ = false := frozen_of_row wr _ _ _ _ hu.here
    have hbox : wr.heap[w.heap.size]? = some (.cells #[.int .i64 x.h, .int .i64 x.p, .bool x.b] 50 (0, 0)) := by
      rw [hu.other _ (by omega)]; exact heap_alloc_new w _
    have b0 : wr.cell? ⟨w.heap.size, 0, none⟩ = some (.int .i64 x.h) := cell_at hbox rfl
    have b1 : wr.cell? ⟨w.heap.size, 1, none⟩ = some (.int .i64 x.p) := cell_at hbox rfl
    have b2 : wr.cell? ⟨w.heap.size, 2, none⟩ = some (.bool x.b) := cell_at hbox rfl
    have hszr : wr.heap.size = w.heap.size + 1 := by rw [hu.size]; simp
    have HS : Hid (wr.heap.size = w.heap.size + 1) := hszr
    have ha4 : ∀ nq, ((wr.drewN nq).alloc (.cells #[.int .i64 x.h, .int .i64 x.p, .bool x.b] 50)).cell? ⟨Bk, 4, none⟩ = some (.slice none 0 0) := fun nq => cell_allocN c4 _ nq
    clear hszr
    have HU : Hid (Upd (w.alloc (.cells #[.int .i64 x.h, .int .i64 x.p, .bool x.b] 50)) wr Bk (.cells #[.int .i64 k, .int .i64 W, .int .i64 next, .int .i64 run, .slice none 0 0, pv] 103 (0, 0))) := hu
    clear hu hbox
    go_wp2
    go_quiet (fail)
    go_wp2
    go_region_law (refine step_own rfl (.tmp 46) (.tmp 48) 40 rfl 50 i0 _ 3 24 Try.underlying40 hi hz0 hz1 hz2 rfl (by decide) base _ 0 (wcells []) (by simp [Act.eval, Act.put]; rfl) (by exact OwnR.nil _ _ _ _) ⟨wr.heap.size, 0, none⟩ 1 [.int .i64 x.h, .int .i64 x.p, .bool x.b] (by simp [Act.eval, Act.put]) rfl (by exact box_cells (wr.drewN _) x _ rfl) (word_oneCell x) (by unfold maxLen; omega) (by omega) (by simp; have := HS.out; omega) ?_; intro g' o' cap' w2 hown' hfr; have hB2 : w2.heap[Bk]? = some (.cells #[.int .i64 k, .int .i64 W, .int .i64 next, .int .i64 run, .slice none 0 0, pv] 103 (0, 0)) := (hfr.other Bk (by have := HS.out; simp; omega) (by simp [Value.ownBlock])).trans ((Below.heap_alloc (wr.drewN _) _ _ (by have := HS.out; show Bk < wr.heap.size; omega)).trans HU.out.here); have HB2 : Hid _ := hB2; have q4 := cell_at hB2 (i := 4) rfl; have qf : w2.frozen? ⟨Bk, 4, none⟩ = false := frozen_of_row w2 _ _ _ _ hB2; clear hB2)
    all_goals go_end0
    all_goals exact ⟨rfl, add_end (L := []) (ov := .slice none 0 0) hltB (fun j h => h) HU.out rfl rfl HB2.out hown' hfr⟩

theorem add_any (k W next run : Int) (x : W3) (L : List W3) (base Bk : Nat) (ov pv : Value) (w : World)
    (hB : w.heap[Bk]? = some (.cells #[.int .i64 k, .int .i64 W, .int .i64 next, .int .i64 run, ov, pv] 103 (0, 0)))
    (hown : OwnR w base 50 3 ov L.length (wcells L)) (hbase : base ≤ w.heap.size) (hL : L.length < 4398046511104) :
    Calls Try.prog 59 #[.pointer (some ⟨Bk, 0, none⟩), .agg #[.int .i64 x.h, .int .i64 x.p, .bool x.b]] w fun e w' => e = .returned (.tuple #[]) ∧
      ∃ n, Stays L x.h n ∧ ∃ ov', OwnR w' base 50 3 ov' (L.take n ++ [x]).length (wcells (L.take n ++ [x])) ∧ w'.heap[Bk]? = some (.cells #[.int .i64 k, .int .i64 W, .int .i64 next, .int .i64 run, ov', pv] 103 (0, 0)) ∧ PFr w w' ov ov' Bk := by
  have h := hown.2
  rcases h with ⟨rfl, h0⟩ | ⟨g, o, cap, cur, rfl, _⟩
  · obtain rfl : L = [] := List.eq_nil_of_length_eq_zero h0
    refine (add_nil k W next run x base Bk pv w hB hbase).mono ?_
    rintro e w' ⟨rfl, ov', h1, h2, h3⟩
    exact ⟨rfl, 0, ⟨Nat.le_refl _, fun j hj => absurd hj (by simp), fun hj => absurd hj (by simp)⟩, ov', by simpa using h1, h2, h3⟩
  · exact add_some k W next run x L base Bk g o cap pv w hB hown hbase hL
end Go.Proofs.Ytilcmkiihefkkaa
