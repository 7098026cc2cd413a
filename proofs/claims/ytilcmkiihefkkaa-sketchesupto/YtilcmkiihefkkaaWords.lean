import Derived.Test.YtilcmkiihefkkaaScanGe
import Derived.Laws.EntriesVeiled
set_option linter.unusedVariables false
set_option linter.unusedSimpArgs false
set_option maxRecDepth 100000
namespace Go.Proofs.Ytilcmkiihefkkaa
open Go.RowKit

/-- scanner and picker, as numbers and lists -/
structure ScSt where
  run : Nat
  code : Nat
  turned : Nat
  next : Int
  prun : Int
  L : List W3
  M : List W3

def scStep (k W : Nat) (st : ScSt) (place : Nat) (m : Nat) : ScSt :=
  if m = 4 then { st with run := 0 } else
  if k ≤ st.run + 1 then
    { run := st.run + 1, code := (4 * st.code + m) % 4 ^ k, turned := st.turned / 4 + (3 - m) * 4 ^ (k - 1), next := ((place + 1 - k : Nat) : Int) + 1,
      prun := stepR st.next st.prun (place + 1 - k : Nat),
      L := stepL W st.next (place + 1 - k : Nat) st.L (candOf k (place + 1 - k) ((4 * st.code + m) % 4 ^ k) (st.turned / 4 + (3 - m) * 4 ^ (k - 1))),
      M := stepM W (stepR st.next st.prun (place + 1 - k : Nat)) (stepL W st.next (place + 1 - k : Nat) st.L (candOf k (place + 1 - k) ((4 * st.code + m) % 4 ^ k) (st.turned / 4 + (3 - m) * 4 ^ (k - 1)))) st.M }
  else { st with run := st.run + 1, code := (4 * st.code + m) % 4 ^ k, turned := st.turned / 4 + (3 - m) * 4 ^ (k - 1) }

/-- behind so many letters -/
def scRun (k W : Nat) (l : List UInt8) : Nat → ScSt
  | 0 => ⟨0, 0, 0, 0, 0, [], []⟩
  | i + 1 => scStep k W (scRun k W l i) i (numb (l.getD i 0)).toNat

theorem stepL_length (W next place : Int) (L : List W3) (x : Option W3) : (stepL W next place L x).length ≤ L.length + 1 := by
  have := mvL_length W next place L
  cases x with
  | none => simp only [stepL]; omega
  | some x =>
    simp only [stepL, List.length_append, List.length_cons, List.length_nil]
    have := keepL_length (mvL W next place L) x.h
    omega

theorem pickL_length (M : List W3) (x : W3) : (pickL M x).length ≤ M.length + 1 := by
  unfold pickL
  split
  · simp
  · split <;> simp

theorem stepM_length (W r : Int) (L2 M : List W3) : (stepM W r L2 M).length ≤ M.length + 1 := by
  unfold stepM
  split
  · split
    · omega
    · exact pickL_length _ _
  · omega

/-- the bounds of what is kept -/
structure ScB (k : Nat) (st : ScSt) (i : Nat) : Prop where
  run : st.run ≤ i
  code : st.code < 4 ^ k
  turned : st.turned < 4 ^ k
  prun0 : 0 ≤ st.prun
  prun : st.prun ≤ i
  L : st.L.length ≤ i
  M : st.M.length ≤ i

theorem scRun_bounds (k W : Nat) (hk1 : 1 ≤ k) (hk2 : k ≤ 12) (l : List UInt8) (hg : ∀ i, i < l.length → 0 ≤ numb (l.getD i 0)) : ∀ i, i ≤ l.length → ScB k (scRun k W l i) i := by
  intro i
  have hp := pow_cases k hk1 hk2
  induction i with
  | zero => intro _; exact ⟨Nat.le_refl _, by show 0 < _; omega, by show 0 < _; omega, Int.le_refl _, Int.le_refl _, Nat.le_refl _, Nat.le_refl _⟩
  | succ i ih =>
    intro hi
    obtain ⟨h1, h2, h3, h4, h5, h6, h7⟩ := ih (by omega)
    have hn := numb_lt (l.getD i 0)
    have hn0 := hg i (by omega)
    show ScB k (scStep k W (scRun k W l i) i (numb (l.getD i 0)).toNat) (i + 1)
    generalize scRun k W l i = st at *
    generalize hm : (numb (l.getD i 0)).toNat = m at *
    have hm5 : m < 5 := by omega
    unfold scStep
    split
    · exact ⟨Nat.zero_le _, h2, h3, h4, by show st.prun ≤ _; omega, by show st.L.length ≤ _; omega, by show st.M.length ≤ _; omega⟩
    · split
      · refine ⟨by show st.run + 1 ≤ _; omega, Nat.mod_lt _ (by omega), turned_lt k st.turned m hk1 hk2 h3 (by omega), ?_, ?_, ?_, ?_⟩
        · show 0 ≤ stepR _ _ _; unfold stepR; split <;> omega
        · show stepR _ _ _ ≤ _; unfold stepR; split <;> omega
        · show (stepL _ _ _ _ _).length ≤ _
          have := stepL_length W st.next (i + 1 - k : Nat) st.L (candOf k (i + 1 - k) ((4 * st.code + m) % 4 ^ k) (st.turned / 4 + (3 - m) * 4 ^ (k - 1)))
          omega
        · show (stepM _ _ _ _).length ≤ _
          have := stepM_length W (stepR st.next st.prun (i + 1 - k : Nat)) (stepL W st.next (i + 1 - k : Nat) st.L (candOf k (i + 1 - k) ((4 * st.code + m) % 4 ^ k) (st.turned / 4 + (3 - m) * 4 ^ (k - 1)))) st.M
          omega
      · exact ⟨by show st.run + 1 ≤ _; omega, Nat.mod_lt _ (by omega), turned_lt k st.turned m hk1 hk2 h3 (by omega), h4, by show st.prun ≤ _; omega, by show st.L.length ≤ _; omega, by show st.M.length ≤ _; omega⟩

/-- scanner and picker in memory, behind so many letters -/
structure WI (w0 : World) (base S Bk : Nat) (k W : Nat) (l : List UInt8) (i : Nat) (w : World) : Prop where
  scan : w.heap[S]? = some (Obj.cells #[.int .i64 k, .int .i64 (scRun k W l i).run, .int .u64 (scRun k W l i).code, .int .u64 (scRun k W l i).turned, .func (.func 41) #[.pointer (some ⟨Bk, 0, none⟩)] #[]] 107 (0, 0))
  pick : PI w base Bk k W (scRun k W l i).next (scRun k W l i).prun (scRun k W l i).L (scRun k W l i).M
  below : Below base w0 w
  bnd : ScB k (scRun k W l i) i

theorem WI_step (w0 : World) (base S Bk k W : Nat) (s : ByteArray) (hk1 : 1 ≤ k) (hk2 : k ≤ 12) (hW : 1 ≤ W) (hW2 : W ≤ 20) (hs : s.size ≤ 4398046510000) (hlowS : base ≤ S) (hb0 : base ≤ w0.heap.size)
    (i : Nat) (hi : i < s.size) (w : World) (hn : 0 ≤ numb s[i]) (h : WI w0 base S Bk k W s.data.toList i w) :
    Calls Try.prog 42 #[.pointer (some ⟨S, 0, none⟩), .int .i64 i, .int .i64 (numb s[i])] w fun e w' => e = .returned (.tuple #[]) ∧ WI w0 base S Bk k W s.data.toList (i + 1) w' := by
  obtain ⟨hS, hP, hB, hb⟩ := h
  have hp := pow_cases k hk1 hk2
  have hl := numb_lt s[i]
  obtain ⟨m, hm⟩ : ∃ m : Nat, numb s[i] = m := ⟨(numb s[i]).toNat, by omega⟩
  have hget : s.data.toList.getD i 0 = s[i] := by
    rw [List.getD_eq_getElem?_getD, List.getElem?_eq_getElem (by simpa using hi), Array.getElem_toList]
    rfl
  have hrun : scRun k W s.data.toList (i + 1) = scStep k W (scRun k W s.data.toList i) i m := by
    show scStep k W (scRun k W s.data.toList i) i (numb (s.data.toList.getD i 0)).toNat = _
    rw [hget, hm]
    rfl
  have hbase : base ≤ w.heap.size := Nat.le_trans hb0 hB.size
  have hb1 := hb.run
  have hb2 := hb.prun
  have hb3 := hb.L
  have hb4 := hb.M
  rw [hm]
  by_cases h4 : m = 4
  · subst h4
    refine (sbase_N _ _ _ _ _ _ S w hS).mono ?_
    rintro e w' ⟨rfl, hu⟩
    have e1 : scStep k W (scRun k W s.data.toList i) i 4 = { scRun k W s.data.toList i with run := 0 } := by unfold scStep; rw [if_pos rfl]
    refine ⟨rfl, ?_⟩
    constructor
    · rw [hrun, e1]; exact hu.here
    · rw [hrun, e1]; exact hP.scan hS hu
    · exact hB.trans (hu.below hlowS)
    · rw [hrun, e1]; exact ⟨Nat.zero_le _, hb.code, hb.turned, hb.prun0, by show (scRun k W s.data.toList i).prun ≤ _; omega, by show (scRun k W s.data.toList i).L.length ≤ _; omega, by show (scRun k W s.data.toList i).M.length ≤ _; omega⟩
  · by_cases hge : k ≤ (scRun k W s.data.toList i).run + 1
    · refine (sbase_ge k W _ _ m i _ _ _ _ _ base S Bk w hk1 hk2 hW hW2 hb.code hb.turned (by omega) (by omega) (by omega) (by omega) (by omega) hlowS hbase hS hP (by omega) (by omega) hb.prun0 (by omega) (by omega)).mono ?_
      rintro e w' ⟨rfl, h1, h2, h3⟩
      refine ⟨rfl, ?_⟩
      have e1 := hrun
      unfold scStep at e1
      rw [if_neg h4, if_pos hge] at e1
      constructor
      · rw [e1]; exact h1
      · rw [e1]; exact h2
      · exact hB.trans h3
      · rw [e1]
        refine ⟨by show (scRun k W s.data.toList i).run + 1 ≤ _; omega, Nat.mod_lt _ (by omega), turned_lt k _ m hk1 hk2 hb.turned (by omega), ?_, ?_, ?_, ?_⟩
        · show 0 ≤ stepR _ _ _; have := hb.prun0; unfold stepR; split <;> omega
        · show stepR _ _ _ ≤ _; unfold stepR; split <;> omega
        · refine Nat.le_trans (stepL_length _ _ _ _ _) ?_; omega
        · refine Nat.le_trans (stepM_length _ _ _ _) ?_; omega
    · refine (sbase_lt k W _ _ m i _ _ _ _ _ base S Bk w hk1 hk2 hW hW2 hb.code hb.turned (by omega) (by omega) (by omega) (by omega) (by omega) hlowS hbase hS hP (by omega) (by omega) hb.prun0 (by omega) (by omega)).mono ?_
      rintro e w' ⟨rfl, h1, h2, h3⟩
      refine ⟨rfl, ?_⟩
      have e1 := hrun
      unfold scStep at e1
      rw [if_neg h4, if_neg hge] at e1
      constructor
      · rw [e1]; exact h1
      · rw [e1]; exact h2
      · exact hB.trans h3
      · rw [e1]
        exact ⟨by show (scRun k W s.data.toList i).run + 1 ≤ _; omega, Nat.mod_lt _ (by omega), turned_lt k _ m hk1 hk2 hb.turned (by omega), hb.prun0, by show (scRun k W s.data.toList i).prun ≤ _; omega, by show (scRun k W s.data.toList i).L.length ≤ _; omega, by show (scRun k W s.data.toList i).M.length ≤ _; omega⟩

theorem enter34 (args : Array Value) (w : World) : (callFunc 42 args).run Try.prog w = .ok (.enter 42 args) w := by
  obtain ⟨c, hc⟩ : ∃ c, Try.f42.body = some c := ⟨_, rfl⟩
  exact enter_of Try.func42 (by kernel_rfl) hc args w

set_option maxRecDepth 100000 in
set_option maxHeartbeats 1000000 in
theorem words_any (s : ByteArray) (k W : Nat) (w : World) (hs : s.size ≤ 4398046510000) (hk1 : 1 ≤ k) (hk2 : k ≤ 12) (hW : 1 ≤ W) (hW2 : W ≤ 20) :
    Calls Try.prog 17 #[.string s, .int .i64 k, .int .i64 W] w fun e w' =>
      ((good s ∧ ∃ pv, e = .returned (.tuple #[pv, .int .i64 0]) ∧ OwnR w' w.heap.size 50 3 pv (scRun k W s.data.toList s.size).M.length (wcells (scRun k W s.data.toList s.size).M)) ∨ (¬ good s ∧ e = .returned (.tuple #[.slice none 0 0, .int .i64 2]))) ∧ Below w.heap.size w w' := by
  have hi0 : scRun k W s.data.toList 0 = ⟨0, 0, 0, 0, 0, [], []⟩ := rfl
  have hp := pow_cases k hk1 hk2
  have HK : Hid ((4 : Nat) ≤ 4 ^ k) := hp.2.1
  clear hp
  have HI0 : Hid (scRun k W s.data.toList 0 = ⟨0, 0, 0, 0, 0, [], []⟩) := hi0
  clear hi0
  go_enter Try.func17, Try.ntmps17
  go_wp2_with fail
  refine (eachBase_any 42 enter34 _ s _ (by omega) (WI w w.heap.size (w.heap.size + 1) w.heap.size k W s.data.toList) (fun i hi wr hn h => WI_step w _ _ _ k W s hk1 hk2 hW hW2 hs (by omega) (Nat.le_refl _) i hi wr hn h) ?_).mono ?_
  · refine ⟨?_, ?_, ?_, ?_⟩
    · rw [HI0.out]
      exact heap_alloc2_new w _ _
    · rw [HI0.out]
      exact ⟨Nat.le_refl _, .slice none 0 0, .slice none 0 0, heap_alloc2_old w _ _, OwnR.nil _ _ _ _, OwnR.nil _ _ _ _, fun g hg => by simp [Value.ownBlock] at hg⟩
    · exact ((Below.refl _ w).alloc (Nat.le_refl _) _).alloc (by simp) _
    · rw [HI0.out]
      have := HK.out
      exact ⟨Nat.le_refl _, by show 0 < _; omega, by show 0 < _; omega, Int.le_refl _, Int.le_refl _, Nat.le_refl _, Nat.le_refl _⟩
  · rintro e w' ⟨i, hi, hWI, hgd, hend⟩
    obtain ⟨hS, ⟨hlow, ov, pv, hB, ho, hp, hd⟩, hbel, hb⟩ := hWI
    have c5 : w'.cell? ⟨w.heap.size, 5, none⟩ = some pv := cell_at hB rfl
    clear hS hB ho hd hb
    rcases hend with ⟨rfl, rfl⟩ | ⟨hk', hneg, rfl⟩
    · have HG : Hid (good s) := fun j hj => hgd j hj hj
      have HP : Hid (OwnR w' w.heap.size 50 3 pv (scRun k W s.data.toList s.size).M.length (wcells (scRun k W s.data.toList s.size).M)) := hp
      clear hgd hp
      go_wp2
      go_ret2
      exact ⟨Or.inl ⟨HG.out, pv, rfl, HP.out⟩, hbel⟩
    · have HG : Hid (¬ good s) := fun h => absurd (h i hk') (by omega)
      clear hgd hp hneg
      go_wp2
      go_ret2
      exact ⟨Or.inr ⟨HG.out, rfl⟩, hbel⟩

set_option maxRecDepth 100000 in
set_option maxHeartbeats 1000000 in
theorem words_bad (s : ByteArray) (k W : Int) (w : World) (h : k < 1 ∨ 12 < k ∨ W < 1 ∨ 20 < W) :
    Calls Try.prog 17 #[.string s, .int .i64 k, .int .i64 W] w fun e w' => e = .returned (.tuple #[.slice none 0 0, .int .i64 6]) ∧ w' = w := by
  by_cases h1 : k < 1
  · go_enter Try.func17, Try.ntmps17
    go_wp2
    go_ret2
    exact ⟨rfl, rfl⟩
  · by_cases h2 : 12 < k
    · go_enter Try.func17, Try.ntmps17
      go_wp2
      go_ret2
      exact ⟨rfl, rfl⟩
    · by_cases h3 : W < 1
      · go_enter Try.func17, Try.ntmps17
        go_wp2
        go_ret2
        exact ⟨rfl, rfl⟩
      · have h4 : 20 < W := by omega
        go_enter Try.func17, Try.ntmps17
        go_wp2
        go_ret2
        exact ⟨rfl, rfl⟩
end Go.Proofs.Ytilcmkiihefkkaa
