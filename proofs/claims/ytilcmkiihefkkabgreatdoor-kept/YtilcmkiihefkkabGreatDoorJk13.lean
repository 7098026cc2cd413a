import Derived.Laws.EntriesVeiled
import Derived.Test.YtilcmkiihefkkabGreatDoorJk12
section
set_option linter.unusedVariables false
set_option linter.unusedSimpArgs false
set_option maxRecDepth 100000
namespace Go.Proofs.YtilcmkiihefkkabGreatDoor.Mn
open Go.RowKit
/-- scanner and picker, as numbers and lists -/
structure ScSt where
  run : Nat
  code : Nat
  turned : Nat
  next : Int
  prun : Int
  L : List W3
  M : List W3
def scStep (k W : Nat) (st : ScSt) (place : Nat) (m : Nat) : ScSt :=
  if m = 4 then { st with run := 0 } else
  if k ≤ st.run + 1 then
    { run := st.run + 1, code := (4 * st.code + m) % 4 ^ k, turned := st.turned / 4 + (3 - m) * 4 ^ (k - 1), next := ((place + 1 - k : Nat) : Int) + 1,
      prun := stepR st.next st.prun (place + 1 - k : Nat),
      L := stepL W st.next (place + 1 - k : Nat) st.L (candOf k (place + 1 - k) ((4 * st.code + m) % 4 ^ k) (st.turned / 4 + (3 - m) * 4 ^ (k - 1))),
      M := stepM W (stepR st.next st.prun (place + 1 - k : Nat)) (stepL W st.next (place + 1 - k : Nat) st.L (candOf k (place + 1 - k) ((4 * st.code + m) % 4 ^ k) (st.turned / 4 + (3 - m) * 4 ^ (k - 1)))) st.M }
  else { st with run := st.run + 1, code := (4 * st.code + m) % 4 ^ k, turned := st.turned / 4 + (3 - m) * 4 ^ (k - 1) }
/-- behind so many letters -/
def scRun (k W : Nat) (l : List UInt8) : Nat → ScSt
  | 0 => ⟨0, 0, 0, 0, 0, [], []⟩
  | i + 1 => scStep k W (scRun k W l i) i (numb (l.getD i 0)).toNat
theorem stepL_length (W next place : Int) (L : List W3) (x : Option W3) : (stepL W next place L x).length ≤ L.length + 1 := by
  have := mvL_length W next place L
  cases x with
  | none => simp only [stepL]; omega
  | some x =>
    simp only [stepL, List.length_append, List.length_cons, List.length_nil]
    have := keepL_length (mvL W next place L) x.h
    omega
theorem pickL_length (M : List W3) (x : W3) : (pickL M x).length ≤ M.length + 1 := by
  unfold pickL
  split
  · simp
  · split <;> simp
theorem stepM_length (W r : Int) (L2 M : List W3) : (stepM W r L2 M).length ≤ M.length + 1 := by
  unfold stepM
  split
  · split
    · omega
    · exact pickL_length _ _
  · omega
/-- the bounds of what is kept -/
structure ScB (k : Nat) (st : ScSt) (i : Nat) : Prop where
  run : st.run ≤ i
  code : st.code < 4 ^ k
  turned : st.turned < 4 ^ k
  prun0 : 0 ≤ st.prun
  prun : st.prun ≤ i
  L : st.L.length ≤ i
  M : st.M.length ≤ i
theorem scRun_bounds (k W : Nat) (hk1 : 1 ≤ k) (hk2 : k ≤ 12) (l : List UInt8) (hg : ∀ i, i < l.length → 0 ≤ numb (l.getD i 0)) : ∀ i, i ≤ l.length → ScB k (scRun k W l i) i := by
  intro i
  have hp := pow_cases k hk1 hk2
  induction i with
  | zero => intro _; exact ⟨Nat.le_refl _, by show 0 < _; omega, by show 0 < _; omega, Int.le_refl _, Int.le_refl _, Nat.le_refl _, Nat.le_refl _⟩
  | succ i ih =>
    intro hi
    obtain ⟨h1, h2, h3, h4, h5, h6, h7⟩ := ih (by omega)
    have hn := numb_lt (l.getD i 0)
    have hn0 := hg i (by omega)
    show ScB k (scStep k W (scRun k W l i) i (numb (l.getD i 0)).toNat) (i + 1)
    generalize scRun k W l i = st at *
    generalize hm : (numb (l.getD i 0)).toNat = m at *
    have hm5 : m < 5 := by omega
    unfold scStep
    split
    · exact ⟨Nat.zero_le _, h2, h3, h4, by show st.prun ≤ _; omega, by show st.L.length ≤ _; omega, by show st.M.length ≤ _; omega⟩
    · split
      · refine ⟨by show st.run + 1 ≤ _; omega, Nat.mod_lt _ (by omega), turned_lt k st.turned m hk1 hk2 h3 (by omega), ?_, ?_, ?_, ?_⟩
        · show 0 ≤ stepR _ _ _; unfold stepR; split <;> omega
        · show stepR _ _ _ ≤ _; unfold stepR; split <;> omega
        · show (stepL _ _ _ _ _).length ≤ _
          have := stepL_length W st.next (i + 1 - k : Nat) st.L (candOf k (i + 1 - k) ((4 * st.code + m) % 4 ^ k) (st.turned / 4 + (3 - m) * 4 ^ (k - 1)))
          omega
        · show (stepM _ _ _ _).length ≤ _
          have := stepM_length W (stepR st.next st.prun (i + 1 - k : Nat)) (stepL W st.next (i + 1 - k : Nat) st.L (candOf k (i + 1 - k) ((4 * st.code + m) % 4 ^ k) (st.turned / 4 + (3 - m) * 4 ^ (k - 1)))) st.M
          omega
      · exact ⟨by show st.run + 1 ≤ _; omega, Nat.mod_lt _ (by omega), turned_lt k st.turned m hk1 hk2 h3 (by omega), h4, by show st.prun ≤ _; omega, by show st.L.length ≤ _; omega, by show st.M.length ≤ _; omega⟩
/-- scanner and picker in memory, behind so many letters -/
structure WI (w0 : World) (base S Bk : Nat) (k W : Nat) (l : List UInt8) (i : Nat) (w : World) : Prop where
  scan : w.heap[S]? = some (Obj.cells #[.int .i64 k, .int .i64 (scRun k W l i).run, .int .u64 (scRun k W l i).code, .int .u64 (scRun k W l i).turned, .func (.func 70) #[.pointer (some ⟨Bk, 0, none⟩)] #[]] 152 (0, 0))
  pick : PI w base Bk k W (scRun k W l i).next (scRun k W l i).prun (scRun k W l i).L (scRun k W l i).M
  below : Below base w0 w
  bnd : ScB k (scRun k W l i) i
theorem WI_step (w0 : World) (base S Bk k W : Nat) (s : ByteArray) (hk1 : 1 ≤ k) (hk2 : k ≤ 12) (hW : 1 ≤ W) (hW2 : W ≤ 20) (hs : s.size ≤ 4398046510000) (hlowS : base ≤ S) (hb0 : base ≤ w0.heap.size)
    (i : Nat) (hi : i < s.size) (w : World) (hn : 0 ≤ numb s[i]) (h : WI w0 base S Bk k W s.data.toList i w) :
    Calls Tryz.prog 71 #[.pointer (some ⟨S, 0, none⟩), .int .i64 i, .int .i64 (numb s[i])] w fun e w' => e = .returned (.tuple #[]) ∧ WI w0 base S Bk k W s.data.toList (i + 1) w' := by
  obtain ⟨hS, hP, hB, hb⟩ := h
  have hp := pow_cases k hk1 hk2
  have hl := numb_lt s[i]
  obtain ⟨m, hm⟩ : ∃ m : Nat, numb s[i] = m := ⟨(numb s[i]).toNat, by omega⟩
  have hget : s.data.toList.getD i 0 = s[i] := by
    rw [List.getD_eq_getElem?_getD, List.getElem?_eq_getElem (by simpa using hi), Array.getElem_toList]
    rfl
  have hrun : scRun k W s.data.toList (i + 1) = scStep k W (scRun k W s.data.toList i) i m := by
    show scStep k W (scRun k W s.data.toList i) i (numb (s.data.toList.getD i 0)).toNat = _
    rw [hget, hm]
    rfl
  have hbase : base ≤ w.heap.size := Nat.le_trans hb0 hB.size
  have hb1 := hb.run
  have hb2 := hb.prun
  have hb3 := hb.L
  have hb4 := hb.M
  rw [hm]
  by_cases h4 : m = 4
  · subst h4
    refine (sbase_N _ _ _ _ _ _ S w hS).mono ?_
    rintro e w' ⟨rfl, hu⟩
    have e1 : scStep k W (scRun k W s.data.toList i) i 4 = { scRun k W s.data.toList i with run := 0 } := by unfold scStep; rw [if_pos rfl]
    refine ⟨rfl, ?_⟩
    constructor
    · rw [hrun, e1]; exact hu.here
    · rw [hrun, e1]; exact hP.scan hS hu
    · exact hB.trans (hu.below hlowS)
    · rw [hrun, e1]; exact ⟨Nat.zero_le _, hb.code, hb.turned, hb.prun0, by show (scRun k W s.data.toList i).prun ≤ _; omega, by show (scRun k W s.data.toList i).L.length ≤ _; omega, by show (scRun k W s.data.toList i).M.length ≤ _; omega⟩
  · by_cases hge : k ≤ (scRun k W s.data.toList i).run + 1
    · refine (sbase_ge k W _ _ m i _ _ _ _ _ base S Bk w hk1 hk2 hW hW2 hb.code hb.turned (by omega) (by omega) (by omega) (by omega) (by omega) hlowS hbase hS hP (by omega) (by omega) hb.prun0 (by omega) (by omega)).mono ?_
      rintro e w' ⟨rfl, h1, h2, h3⟩
      refine ⟨rfl, ?_⟩
      have e1 := hrun
      unfold scStep at e1
      rw [if_neg h4, if_pos hge] at e1
      constructor
      · rw [e1]; exact h1
      · rw [e1]; exact h2
      · exact hB.trans h3
      · rw [e1]
        refine ⟨by show (scRun k W s.data.toList i).run + 1 ≤ _; omega, Nat.mod_lt _ (by omega), turned_lt k _ m hk1 hk2 hb.turned (by omega), ?_, ?_, ?_, ?_⟩
        · show 0 ≤ stepR _ _ _; have := hb.prun0; unfold stepR; split <;> omega
        · show stepR _ _ _ ≤ _; unfold stepR; split <;> omega
        · refine Nat.le_trans (stepL_length _ _ _ _ _) ?_; omega
        · refine Nat.le_trans (stepM_length _ _ _ _) ?_; omega
    · refine (sbase_lt k W _ _ m i _ _ _ _ _ base S Bk w hk1 hk2 hW hW2 hb.code hb.turned (by omega) (by omega) (by omega) (by omega) (by omega) hlowS hbase hS hP (by omega) (by omega) hb.prun0 (by omega) (by omega)).mono ?_
      rintro e w' ⟨rfl, h1, h2, h3⟩
      refine ⟨rfl, ?_⟩
      have e1 := hrun
      unfold scStep at e1
      rw [if_neg h4, if_neg hge] at e1
      constructor
      · rw [e1]; exact h1
      · rw [e1]; exact h2
      · exact hB.trans h3
      · rw [e1]
        exact ⟨by show (scRun k W s.data.toList i).run + 1 ≤ _; omega, Nat.mod_lt _ (by omega), turned_lt k _ m hk1 hk2 hb.turned (by omega), hb.prun0, by show (scRun k W s.data.toList i).prun ≤ _; omega, by show (scRun k W s.data.toList i).L.length ≤ _; omega, by show (scRun k W s.data.toList i).M.length ≤ _; omega⟩
theorem enter34 (args : Array Value) (w : World) : (callFunc 71 args).run Tryz.prog w = .ok (.enter 71 args) w := by
  obtain ⟨c, hc⟩ : ∃ c, Tryz.f71.body = some c := ⟨_, rfl⟩
  exact enter_of Tryz.func71 (by kernel_rfl) hc args w
set_option maxRecDepth 100000 in
set_option maxHeartbeats 1000000 in
theorem words_any (s : ByteArray) (k W : Nat) (w : World) (hs : s.size ≤ 4398046510000) (hk1 : 1 ≤ k) (hk2 : k ≤ 12) (hW : 1 ≤ W) (hW2 : W ≤ 20) :
    Calls Tryz.prog 52 #[.string s, .int .i64 k, .int .i64 W] w fun e w' =>
      ((good s ∧ ∃ pv, e = .returned (.tuple #[pv, .int .i64 0]) ∧ OwnR w' w.heap.size 124 3 pv (scRun k W s.data.toList s.size).M.length (wcells (scRun k W s.data.toList s.size).M)) ∨ (¬ good s ∧ e = .returned (.tuple #[.slice none 0 0, .int .i64 2]))) ∧ Below w.heap.size w w' := by
  have hi0 : scRun k W s.data.toList 0 = ⟨0, 0, 0, 0, 0, [], []⟩ := rfl
  have hp := pow_cases k hk1 hk2
  have HK : Hid ((4 : Nat) ≤ 4 ^ k) := hp.2.1
  clear hp
  have HI0 : Hid (scRun k W s.data.toList 0 = ⟨0, 0, 0, 0, 0, [], []⟩) := hi0
  clear hi0
  go_enter Tryz.func52, Tryz.ntmps52
  go_wp2_with fail
  refine (eachBase_any 71 enter34 _ s _ (by omega) (WI w w.heap.size (w.heap.size + 1) w.heap.size k W s.data.toList) (fun i hi wr hn h => WI_step w _ _ _ k W s hk1 hk2 hW hW2 hs (by omega) (Nat.le_refl _) i hi wr hn h) ?_).mono ?_
  · refine ⟨?_, ?_, ?_, ?_⟩
    · rw [HI0.out]
      exact heap_alloc2_new w _ _
    · rw [HI0.out]
      exact ⟨Nat.le_refl _, .slice none 0 0, .slice none 0 0, heap_alloc2_old w _ _, OwnR.nil _ _ _ _, OwnR.nil _ _ _ _, fun g hg => by simp [Value.ownBlock] at hg⟩
    · exact ((Below.refl _ w).alloc (Nat.le_refl _) _).alloc (by simp) _
    · rw [HI0.out]
      have := HK.out
      exact ⟨Nat.le_refl _, by show 0 < _; omega, by show 0 < _; omega, Int.le_refl _, Int.le_refl _, Nat.le_refl _, Nat.le_refl _⟩
  · rintro e w' ⟨i, hi, hWI, hgd, hend⟩
    obtain ⟨hS, ⟨hlow, ov, pv, hB, ho, hp, hd⟩, hbel, hb⟩ := hWI
    have c5 : w'.cell? ⟨w.heap.size, 5, none⟩ = some pv := cell_at hB rfl
    clear hS hB ho hd hb
    rcases hend with ⟨rfl, rfl⟩ | ⟨hk', hneg, rfl⟩
    · have HG : Hid (good s) := fun j hj => hgd j hj hj
      have HP : Hid (OwnR w' w.heap.size 124 3 pv (scRun k W s.data.toList s.size).M.length (wcells (scRun k W s.data.toList s.size).M)) := hp
      clear hgd hp
      go_wp2
      go_ret2
      exact ⟨Or.inl ⟨HG.out, pv, rfl, HP.out⟩, hbel⟩
    · have HG : Hid (¬ good s) := fun h => absurd (h i hk') (by omega)
      clear hgd hp hneg
      go_wp2
      go_ret2
      exact ⟨Or.inr ⟨HG.out, rfl⟩, hbel⟩
end Go.Proofs.YtilcmkiihefkkabGreatDoor.Mn
end
section
set_option linter.unusedVariables false
set_option linter.unusedSimpArgs false
set_option maxRecDepth 100000
namespace Go.Proofs.YtilcmkiihefkkabGreatDoor.Mn
open Go.RowKit
set_option maxHeartbeats 400000 in
theorem lpick_any (c n : Int) (w : World) (hc : -9223372036854775808 ≤ c ∧ c ≤ 9223372036854775807) (hn : 0 < n) (hn2 : n ≤ 100000) :
    Calls Tryz.prog 5 #[.int .i64 c, .int .i64 n] w fun e w' => ∃ r : Nat, e = .returned (.int .i64 r) ∧ (r : Int) < n ∧ w' = w := by
  have hn0 : (n == 0) = false := by rw [beq_eq_false_iff_ne]; omega
  by_cases h : c < 0
  · have e1 : -((c + 1).tmod n) = (-(c + 1)) % n := by
      rw [← Int.neg_tmod, Int.tmod_eq_emod_of_nonneg (by omega)]
    have h1 := Int.emod_nonneg (-(c + 1)) (show n ≠ 0 by omega)
    have h2 := Int.emod_lt_of_pos (-(c + 1)) hn
    have HE : Hid (-((c + 1).tmod n) = (-(c + 1)) % n) := e1
    have H1 : Hid (0 ≤ (-(c + 1)) % n ∧ (-(c + 1)) % n < n) := ⟨h1, h2⟩
    clear e1 h1 h2
    go_enter Tryz.func5, Tryz.ntmps5
    go_wp2
    go_ret
    refine ⟨((-(c + 1)) % n).toNat, ret_int (HE.out.trans ?_), ?_, rfl⟩ <;> have := H1.out <;> omega
  · have h1 := Int.emod_nonneg c (show n ≠ 0 by omega)
    have h2 := Int.emod_lt_of_pos c hn
    have H1 : Hid (0 ≤ c % n ∧ c % n < n) := ⟨h1, h2⟩
    clear h1 h2
    go_enter Tryz.func5, Tryz.ntmps5
    go_wp2
    go_ret
    refine ⟨(c % n).toNat, ret_int ?_, ?_, rfl⟩ <;> have := H1.out <;> omega
/-- a letter of any byte -/
def cleanB (c : UInt8) : UInt8 :=
  if c = 65 ∨ c = 67 ∨ c = 71 ∨ c = 84 ∨ c = 78 then c else ([65, 67, 71, 84, 78] : List UInt8).getD (c.toNat % 5) 0
theorem cleanB_good (c : UInt8) : 0 ≤ numb (cleanB c) := by
  unfold cleanB
  split
  · rename_i h
    rcases numb_cases c with h' | h' | h' | h' | h' | h' <;> first | omega | (exfalso; rcases h with h | h | h | h | h <;> simp_all)
  · have : c.toNat % 5 < 5 := Nat.mod_lt _ (by omega)
    rcases (show c.toNat % 5 = 0 ∨ c.toNat % 5 = 1 ∨ c.toNat % 5 = 2 ∨ c.toNat % 5 = 3 ∨ c.toNat % 5 = 4 by omega) with h | h | h | h | h <;> rw [h] <;> decide
/-- bases of any text, so many at most -/
def cleanL (l : List UInt8) (n : Nat) : List UInt8 := (l.take n).map cleanB
end Go.Proofs.YtilcmkiihefkkabGreatDoor.Mn
end
section
set_option linter.unusedVariables false
set_option linter.unusedSimpArgs false
set_option maxRecDepth 100000
namespace Go.Proofs.YtilcmkiihefkkabGreatDoor.Mn
open Go.RowKit
theorem eqs (c : UInt8) (n : Nat) (hn : n < 256) : (((c.toNat : Int) == (n : Int)) = true ↔ c = UInt8.ofNat n) := by
  rw [beq_iff_eq]
  constructor
  · intro h
    apply UInt8.toNat_inj.1
    rw [UInt8.toNat_ofNat']
    omega
  · intro h
    subst h
    rw [UInt8.toNat_ofNat']
    omega
theorem cleanL_length (l : List UInt8) (n : Nat) : (cleanL l n).length = min n l.length := by simp [cleanL]
theorem clean_step (s : ByteArray) (k : Nat) (hk : k < s.size) (r x : ByteArray) (hr : r = ⟨(cleanL s.data.toList k).toArray⟩) (hx : x.data.toList = [cleanB s[k]]) : r ++ x = ⟨(cleanL s.data.toList (k + 1)).toArray⟩ := by
  have e1 : cleanL s.data.toList (k + 1) = cleanL s.data.toList k ++ [cleanB s[k]] := by
    unfold cleanL
    rw [List.take_succ_eq_append_getElem (by simpa using hk), List.map_append]
    rfl
  rw [e1, hr]
  apply ByteArray.ext
  apply Array.toList_inj.1
  rw [ByteArray.data_append, Array.toList_append, hx]
theorem extract_one (s : ByteArray) (k : Nat) (hk : k < s.size) : (s.extract k (k + 1)).data.toList = [s[k]] := by
  rw [ByteArray.data_extract]
  apply List.ext_getElem
  · simp
    have : k < s.data.size := hk
    omega
  · intro i h1 h2
    have hi : i = 0 := by simp at h2; omega
    subst hi
    simp
    rfl
theorem letter_one (m : Nat) (h : m < 5) : ((⟨#[65, 67, 71, 84, 78]⟩ : ByteArray).extract m (m + 1)).data.toList = [([65, 67, 71, 84, 78] : List UInt8).getD m 0] := by
  rcases (show m = 0 ∨ m = 1 ∨ m = 2 ∨ m = 3 ∨ m = 4 by omega) with rfl | rfl | rfl | rfl | rfl <;> decide
set_option maxRecDepth 100000 in
set_option maxHeartbeats 4000000 in
theorem clean_any (s : ByteArray) (w : World) (hs : s.size ≤ 140737488351232) :
    Calls Tryz.prog 8 #[.string s, .int .i64 300] w fun e w' => e = .returned (.string ⟨(cleanL s.data.toList 300).toArray⟩) ∧ w' = w := by
  go_enter Tryz.func8, Tryz.ntmps8
  go_wp2
  go_loop [5, 6] (fun out i => ∃ (k : Nat) (r : ByteArray), k ≤ s.size ∧ k ≤ 300 ∧ i = .int .i64 k ∧ out = .string r ∧ r = ⟨(cleanL s.data.toList k).toArray⟩) (fun _ i => 300 - (RowKit.intOf i).toNat)
  case atStart => exact ⟨0, _, Nat.zero_le _, Nat.zero_le _, rfl, rfl, rfl⟩
  case round =>
    obtain ⟨k, r, hk, hk3, rfl, rfl, hr⟩ := hrel
    have hrs2 : r.size ≤ 300 := by
      rw [hr]
      show (cleanL s.data.toList k).toArray.size ≤ 300
      rw [List.size_toArray, cleanL_length]
      omega
    have HR : Hid (r = ⟨(cleanL s.data.toList k).toArray⟩) := hr
    clear hr
    by_cases hlt : k < s.size
    · by_cases h2 : (k : Int) < 300
      · by_cases hin : s[k] = 65 ∨ s[k] = 67 ∨ s[k] = 71 ∨ s[k] = 84 ∨ s[k] = 78
        · have HI : Hid (cleanB s[k] = s[k]) := by show _ = _; unfold cleanB; rw [if_pos hin]
          rcases hin with h | h | h | h | h
          · have q1 : ((s[k].toNat : Int) == 65) = true := by rw [h]; rfl
            clear h
            go_wp2
            go_round
            case rel => exact ⟨k + 1, _, by omega, by omega, by go_num, rfl, clean_step s k hlt r _ HR.out (by rw [HI.out]; exact extract_one s k hlt)⟩
            case measure => simp [RowKit.intOf]; omega
          · have q1 : ((s[k].toNat : Int) == 65) = false := by rw [h]; rfl
            have q2 : ((s[k].toNat : Int) == 67) = true := by rw [h]; rfl
            clear h
            go_wp2
            go_round
            case rel => exact ⟨k + 1, _, by omega, by omega, by go_num, rfl, clean_step s k hlt r _ HR.out (by rw [HI.out]; exact extract_one s k hlt)⟩
            case measure => simp [RowKit.intOf]; omega
          · have q1 : ((s[k].toNat : Int) == 65) = false := by rw [h]; rfl
            have q2 : ((s[k].toNat : Int) == 67) = false := by rw [h]; rfl
            have q3 : ((s[k].toNat : Int) == 71) = true := by rw [h]; rfl
            clear h
            go_wp2
            go_round
            case rel => exact ⟨k + 1, _, by omega, by omega, by go_num, rfl, clean_step s k hlt r _ HR.out (by rw [HI.out]; exact extract_one s k hlt)⟩
            case measure => simp [RowKit.intOf]; omega
          · have q1 : ((s[k].toNat : Int) == 65) = false := by rw [h]; rfl
            have q2 : ((s[k].toNat : Int) == 67) = false := by rw [h]; rfl
            have q3 : ((s[k].toNat : Int) == 71) = false := by rw [h]; rfl
            have q4 : ((s[k].toNat : Int) == 84) = true := by rw [h]; rfl
            clear h
            go_wp2
            go_round
            case rel => exact ⟨k + 1, _, by omega, by omega, by go_num, rfl, clean_step s k hlt r _ HR.out (by rw [HI.out]; exact extract_one s k hlt)⟩
            case measure => simp [RowKit.intOf]; omega
          · have q1 : ((s[k].toNat : Int) == 65) = false := by rw [h]; rfl
            have q2 : ((s[k].toNat : Int) == 67) = false := by rw [h]; rfl
            have q3 : ((s[k].toNat : Int) == 71) = false := by rw [h]; rfl
            have q4 : ((s[k].toNat : Int) == 84) = false := by rw [h]; rfl
            have q5 : ((s[k].toNat : Int) == 78) = true := by rw [h]; rfl
            clear h
            go_wp2
            go_round
            case rel => exact ⟨k + 1, _, by omega, by omega, by go_num, rfl, clean_step s k hlt r _ HR.out (by rw [HI.out]; exact extract_one s k hlt)⟩
            case measure => simp [RowKit.intOf]; omega
        · have q1 : ((s[k].toNat : Int) == 65) = false := by rw [Bool.eq_false_iff]; intro h; exact hin (Or.inl ((eqs s[k] 65 (by omega)).1 h))
          have q2 : ((s[k].toNat : Int) == 67) = false := by rw [Bool.eq_false_iff]; intro h; exact hin (Or.inr (Or.inl ((eqs s[k] 67 (by omega)).1 h)))
          have q3 : ((s[k].toNat : Int) == 71) = false := by rw [Bool.eq_false_iff]; intro h; exact hin (Or.inr (Or.inr (Or.inl ((eqs s[k] 71 (by omega)).1 h))))
          have q4 : ((s[k].toNat : Int) == 84) = false := by rw [Bool.eq_false_iff]; intro h; exact hin (Or.inr (Or.inr (Or.inr (Or.inl ((eqs s[k] 84 (by omega)).1 h)))))
          have q5 : ((s[k].toNat : Int) == 78) = false := by rw [Bool.eq_false_iff]; intro h; exact hin (Or.inr (Or.inr (Or.inr (Or.inr ((eqs s[k] 78 (by omega)).1 h)))))
          have HI : Hid (cleanB s[k] = ([65, 67, 71, 84, 78] : List UInt8).getD (s[k].toNat % 5) 0) := by show _ = _; unfold cleanB; rw [if_neg hin]
          clear hin
          obtain ⟨m, hm⟩ : ∃ m, m = s[k].toNat % 5 := ⟨_, rfl⟩
          have hm5 : m < 5 := by omega
          have hmI : ((s[k].toNat : Int) % 5) = (m : Int) := by omega
          have hsb : (s[k].toNat : Int) < 256 := by have := s[k].toNat_lt; omega
          have hm5' : (m : Int) + 1 ≤ 5 := by omega
          rw [← hm] at HI
          clear hm
          go_wp2
          go_round
          case rel => exact ⟨k + 1, _, by omega, by omega, by go_num, rfl, clean_step s k hlt r _ HR.out (by rw [HI.out]; exact letter_one m hm5)⟩
          case measure => simp [RowKit.intOf]; omega
      · go_wp2
        go_ret
        refine ⟨?_, rfl⟩
        have : k = 300 := by omega
        subst this
        show Ending.returned (.string r) = _
        rw [HR.out]
    · go_wp2
      go_ret
      refine ⟨?_, rfl⟩
      show Ending.returned (.string r) = _
      rw [HR.out]
      have e : cleanL s.data.toList k = cleanL s.data.toList 300 := by
        unfold cleanL
        have hl : s.data.toList.length = s.size := Array.length_toList
        rw [List.take_of_length_le (by omega), List.take_of_length_le (by omega)]
      rw [e]
end Go.Proofs.YtilcmkiihefkkabGreatDoor.Mn
end
section
set_option linter.unusedVariables false
set_option linter.unusedSimpArgs false
set_option maxRecDepth 100000
namespace Go.Proofs.YtilcmkiihefkkabGreatDoor.Mn
/-- the numbers of the letters -/
def nums (l : List UInt8) : List Nat := l.map fun c => (numb c).toNat
def codeL (a : List Nat) : Nat := a.foldl (fun c m => 4 * c + m) 0
def tcodeL (a : List Nat) : Nat := codeL ((a.map (3 - ·)).reverse)
theorem codeL_snoc (a : List Nat) (m : Nat) : codeL (a ++ [m]) = 4 * codeL a + m := by simp [codeL]
theorem foldl_code (a : List Nat) : ∀ c, a.foldl (fun c m => 4 * c + m) c = c * 4 ^ a.length + codeL a := by
  induction a with
  | nil => intro c; simp [codeL]
  | cons m a ih =>
    intro c
    have h1 := ih (4 * c + m)
    have h2 := ih (4 * 0 + m)
    simp only [List.foldl_cons, List.length_cons, codeL] at *
    rw [h1, h2, Nat.pow_succ, Nat.add_mul, Nat.mul_zero, Nat.zero_add, show 4 * c * 4 ^ a.length = c * (4 ^ a.length * 4) by rw [Nat.mul_comm 4 c, Nat.mul_assoc, Nat.mul_comm 4]]
    omega
theorem codeL_cons (m : Nat) (a : List Nat) : codeL (m :: a) = m * 4 ^ a.length + codeL a := by
  have := foldl_code a (4 * 0 + m)
  simpa [codeL] using this
theorem tcodeL_snoc (a : List Nat) (m : Nat) : tcodeL (a ++ [m]) = (3 - m) * 4 ^ a.length + tcodeL a := by
  unfold tcodeL
  rw [List.map_append, List.reverse_append]
  simp only [List.map_cons, List.map_nil, List.reverse_cons, List.reverse_nil, List.nil_append, List.singleton_append]
  rw [codeL_cons]
  simp
theorem codeL_lt (a : List Nat) : (∀ m ∈ a, m < 4) → codeL a < 4 ^ a.length := by
  induction a with
  | nil => intro _; simp [codeL]
  | cons m a ih =>
    intro h
    have h1 := ih (fun x hx => h x (List.mem_cons_of_mem _ hx))
    have h2 := h m (List.mem_cons_self ..)
    rw [codeL_cons, List.length_cons, Nat.pow_succ]
    have : m * 4 ^ a.length ≤ 3 * 4 ^ a.length := Nat.mul_le_mul_right _ (by omega)
    omega
/-- k letters from a place on -/
def seg (a : List Nat) (p k : Nat) : List Nat := (a.drop p).take k
theorem seg_length (a : List Nat) (p k : Nat) (h : p + k ≤ a.length) : (seg a p k).length = k := by
  unfold seg
  rw [List.length_take, List.length_drop]
  omega
theorem seg_succ (a : List Nat) (p k : Nat) (h : p + k < a.length) : seg a p (k + 1) = seg a p k ++ [a[p + k]] := by
  unfold seg
  rw [List.take_succ_eq_append_getElem (by rw [List.length_drop]; omega), List.getElem_drop]
/-- is there a word at a place? -/
def isW (a : List Nat) (k p : Nat) : Bool := decide (p + k ≤ a.length) && (seg a p k).all (fun m => decide (m < 4))
/-- letters without N, up to a place -/
def trail (a : List Nat) : Nat → Nat
  | 0 => 0
  | i + 1 => if a.getD i 0 = 4 then 0 else trail a i + 1
theorem trail_le (a : List Nat) : ∀ i, trail a i ≤ i
  | 0 => Nat.le_refl _
  | i + 1 => by
    have := trail_le a i
    unfold trail
    split <;> omega
theorem trail_iff (a : List Nat) (hb : ∀ m ∈ a, m < 5) : ∀ (i : Nat), i ≤ a.length → ∀ r, r ≤ trail a i ↔ (r ≤ i ∧ ∀ m ∈ seg a (i - r) r, m < 4) := by
  intro i
  induction i with
  | zero =>
    intro _ r
    constructor
    · intro h
      have : r = 0 := by simpa [trail] using h
      subst this
      exact ⟨Nat.le_refl _, by simp [seg]⟩
    · intro h
      exact h.1
  | succ i ih =>
    intro hi r
    cases r with
    | zero => simp [seg]
    | succ r =>
      have hget : a.getD i 0 = a[i] := by rw [List.getD_eq_getElem?_getD, List.getElem?_eq_getElem (by omega)]; rfl
      have ha5 := hb a[i] (List.getElem_mem _)
      unfold trail
      rw [hget]
      by_cases h4 : a[i] = 4
      · rw [if_pos h4]
        constructor
        · intro h; omega
        · intro ⟨h1, h2⟩
          exfalso
          have := h2 a[i] (by
            rw [show i + 1 - (r + 1) = i - r by omega, seg_succ a (i - r) r (by omega)]
            have e : i - r + r = i := by omega
            simp [e])
          omega
      · rw [if_neg h4, Nat.add_le_add_iff_right, ih (by omega) r]
        constructor
        · intro ⟨h1, h2⟩
          refine ⟨by omega, ?_⟩
          intro m hm
          rw [show i + 1 - (r + 1) = i - r by omega, seg_succ a (i - r) r (by omega), List.mem_append] at hm
          rcases hm with hm | hm
          · exact h2 m hm
          · have e : i - r + r = i := by omega
            simp [e] at hm
            omega
        · intro ⟨h1, h2⟩
          refine ⟨by omega, ?_⟩
          intro m hm
          refine h2 m ?_
          rw [show i + 1 - (r + 1) = i - r by omega, seg_succ a (i - r) r (by omega)]
          exact List.mem_append_left _ hm
theorem isW_iff (a : List Nat) (hb : ∀ m ∈ a, m < 5) (k i : Nat) (hi : i ≤ a.length) (hk : k ≤ i) : isW a k (i - k) = true ↔ k ≤ trail a i := by
  rw [trail_iff a hb i hi k]
  unfold isW
  rw [Bool.and_eq_true, decide_eq_true_iff, List.all_eq_true]
  constructor
  · intro ⟨_, h⟩
    exact ⟨hk, fun m hm => by simpa using h m hm⟩
  · intro ⟨_, h⟩
    exact ⟨by omega, fun m hm => by simpa using h m hm⟩
/-- the word at a place, if it stands for something -/
def candW (a : List Nat) (k p : Nat) : Option W3 := if isW a k p = true then candOf k p (codeL (seg a p k)) (tcodeL (seg a p k)) else none
/-- the picker alone -/
structure PkSt where
  next : Int
  prun : Int
  L : List W3
  M : List W3
def pkStep (k W : Nat) (a : List Nat) (st : PkSt) (p : Nat) : PkSt :=
  if isW a k p = true then
    ⟨(p : Int) + 1, stepR st.next st.prun p, stepL W st.next p st.L (candW a k p), stepM W (stepR st.next st.prun p) (stepL W st.next p st.L (candW a k p)) st.M⟩
  else st
def pkRun (k W : Nat) (a : List Nat) : Nat → PkSt
  | 0 => ⟨0, 0, [], []⟩
  | p + 1 => pkStep k W a (pkRun k W a p) p
/-- what the scanner knows -/
structure ScI (k : Nat) (a : List Nat) (st : ScSt) (i : Nat) : Prop where
  run : st.run = trail a i
  code : ∀ r, r ≤ k → r ≤ st.run → st.code % 4 ^ r = codeL (seg a (i - r) r)
  turned : ∀ r, r ≤ k → r ≤ st.run → st.turned / 4 ^ (k - r) = tcodeL (seg a (i - r) r)
theorem nums_getD (l : List UInt8) (i : Nat) (h : i < l.length) : (numb (l.getD i 0)).toNat = (nums l).getD i 0 := by
  have h' : i < (nums l).length := by simpa [nums] using h
  rw [List.getD_eq_getElem?_getD, List.getD_eq_getElem?_getD, List.getElem?_eq_getElem h, List.getElem?_eq_getElem h']
  simp [nums]
theorem pow_split (k r : Nat) (h : r ≤ k) : (4 : Nat) ^ k = 4 ^ (k - r) * 4 ^ r := by
  rw [← Nat.pow_add]
  congr 1
  omega
theorem scRun_pk (k W : Nat) (hk1 : 1 ≤ k) (hk2 : k ≤ 12) (l : List UInt8) (hg : ∀ i, i < l.length → 0 ≤ numb (l.getD i 0)) (hb5 : ∀ m ∈ nums l, m < 5) :
    ∀ i, i ≤ l.length → ScI k (nums l) (scRun k W l i) i ∧ (⟨(scRun k W l i).next, (scRun k W l i).prun, (scRun k W l i).L, (scRun k W l i).M⟩ : PkSt) = pkRun k W (nums l) (i + 1 - k) := by
  intro i
  induction i with
  | zero =>
    intro _
    refine ⟨⟨rfl, ?_, ?_⟩, ?_⟩
    · intro r _ hr
      have : r = 0 := by simpa [scRun] using hr
      subst this
      simp [seg, codeL, Nat.mod_one]
    · intro r hr1 hr
      have : r = 0 := by simpa [scRun] using hr
      subst this
      simp [seg, tcodeL, codeL, scRun]
    · rw [show 0 + 1 - k = 0 by omega]
      rfl
  | succ i ih =>
    intro hi
    obtain ⟨⟨h1, h2, h3⟩, h4⟩ := ih (by omega)
    have hbd := scRun_bounds k W hk1 hk2 l hg i (by omega)
    have hlen : (nums l).length = l.length := by simp [nums]
    have hstep : scRun k W l (i + 1) = scStep k W (scRun k W l i) i ((nums l).getD i 0) := by
      show scStep k W (scRun k W l i) i (numb (l.getD i 0)).toNat = _
      rw [nums_getD l i (by omega)]
    have hget : (nums l).getD i 0 = (nums l)[i]'(by omega) := by rw [List.getD_eq_getElem?_getD, List.getElem?_eq_getElem (by omega)]; rfl
    have hm5 : (nums l).getD i 0 < 5 := by rw [hget]; exact hb5 _ (List.getElem_mem _)
    have htr : trail (nums l) (i + 1) = if (nums l).getD i 0 = 4 then 0 else trail (nums l) i + 1 := rfl
    generalize hst : scRun k W l i = st at *
    generalize hm : (nums l).getD i 0 = m at *
    rw [hstep]
    have hp := pow_cases k hk1 hk2
    by_cases h5 : m = 4
    · have e1 : scStep k W st i m = { st with run := 0 } := by unfold scStep; rw [if_pos h5]
      rw [e1]
      rw [if_pos h5] at htr
      refine ⟨⟨htr.symm, ?_, ?_⟩, ?_⟩
      · intro r _ hr
        have : r = 0 := by simpa using hr
        subst this
        simp [seg, codeL, Nat.mod_one]
      · intro r _ hr
        have : r = 0 := by simpa using hr
        subst this
        have := h3 0 (Nat.zero_le _) (Nat.zero_le _)
        simpa [seg, tcodeL, codeL] using this
      · show (⟨st.next, st.prun, st.L, st.M⟩ : PkSt) = _
        rw [h4]
        by_cases hik : i + 1 < k
        · rw [show i + 1 + 1 - k = i + 1 - k by omega]
        · rw [show i + 1 + 1 - k = (i + 1 - k) + 1 by omega]
          have hw : ¬ isW (nums l) k (i + 1 - k) = true := by
            rw [isW_iff (nums l) hb5 k (i + 1) (by omega) (by omega)]
            omega
          show _ = pkStep k W (nums l) (pkRun k W (nums l) (i + 1 - k)) (i + 1 - k)
          unfold pkStep
          rw [if_neg hw]
    · rw [if_neg h5] at htr
      have hm4 : m < 4 := by omega
      have hsegs : ∀ r, r ≤ i → seg (nums l) (i + 1 - (r + 1)) (r + 1) = seg (nums l) (i - r) r ++ [m] := by
        intro r hr
        rw [show i + 1 - (r + 1) = i - r by omega, seg_succ (nums l) (i - r) r (by omega)]
        have e : i - r + r = i := by omega
        rw [hget]
        simp [e]
      have hcode : ∀ r, r ≤ k → r ≤ st.run + 1 → ((4 * st.code + m) % 4 ^ k) % 4 ^ r = codeL (seg (nums l) (i + 1 - r) r) := by
        intro r hr1 hr2
        cases r with
        | zero => simp [seg, codeL, Nat.mod_one]
        | succ r =>
          have hri : r ≤ i := by have := trail_le (nums l) i; omega
          rw [hsegs r hri, codeL_snoc, ← h2 r (by omega) (by omega), pow_split k (r + 1) hr1, Nat.mod_mul_left_mod, Nat.pow_succ]
          have hpos : 0 < 4 ^ r := Nat.pow_pos (by omega)
          have e1 : st.code = 4 ^ r * (st.code / 4 ^ r) + st.code % 4 ^ r := (Nat.div_add_mod _ _).symm
          have hlt : st.code % 4 ^ r < 4 ^ r := Nat.mod_lt _ hpos
          have e2 : 4 * st.code + m = (4 * (st.code % 4 ^ r) + m) + (4 ^ r * 4) * (st.code / 4 ^ r) := by
            rw [Nat.mul_comm (4 ^ r) 4, Nat.mul_assoc 4]
            omega
          rw [e2, Nat.add_mul_mod_self_left, Nat.mod_eq_of_lt (by omega)]
      have hturned : ∀ r, r ≤ k → r ≤ st.run + 1 → (st.turned / 4 + (3 - m) * 4 ^ (k - 1)) / 4 ^ (k - r) = tcodeL (seg (nums l) (i + 1 - r) r) := by
        intro r hr1 hr2
        cases r with
        | zero =>
          have := turned_lt k st.turned m hk1 hk2 hbd.turned hm4
          rw [Nat.sub_zero, Nat.div_eq_of_lt this]
          simp [seg, tcodeL, codeL]
        | succ r =>
          have hri : r ≤ i := by have := trail_le (nums l) i; omega
          rw [hsegs r hri, tcodeL_snoc, ← h3 r (by omega) (by omega), seg_length (nums l) (i - r) r (by omega)]
          have e1 : 4 ^ (k - 1) = 4 ^ (k - (r + 1)) * 4 ^ r := by rw [← Nat.pow_add]; congr 1; omega
          have e2 : 4 ^ (k - r) = 4 * 4 ^ (k - (r + 1)) := by rw [← Nat.pow_succ']; congr 1; omega
          have hpos : 0 < 4 ^ (k - (r + 1)) := Nat.pow_pos (by omega)
          rw [e1, e2, ← Nat.div_div_eq_div_mul, show (3 - m) * (4 ^ (k - (r + 1)) * 4 ^ r) = 4 ^ (k - (r + 1)) * ((3 - m) * 4 ^ r) by rw [Nat.mul_left_comm], Nat.add_mul_div_left _ _ hpos]
          omega
      by_cases hge : k ≤ st.run + 1
      · unfold scStep
        rw [if_neg h5, if_pos hge]
        have hc : (4 * st.code + m) % 4 ^ k = codeL (seg (nums l) (i + 1 - k) k) := by
          have := hcode k (Nat.le_refl _) hge
          rwa [Nat.mod_mod] at this
        have ht : st.turned / 4 + (3 - m) * 4 ^ (k - 1) = tcodeL (seg (nums l) (i + 1 - k) k) := by
          have := hturned k (Nat.le_refl _) hge
          rwa [Nat.sub_self, Nat.pow_zero, Nat.div_one] at this
        have hki : k ≤ i + 1 := by have := trail_le (nums l) i; omega
        have hw : isW (nums l) k (i + 1 - k) = true := by
          rw [isW_iff (nums l) hb5 k (i + 1) (by omega) hki]
          omega
        refine ⟨⟨by show st.run + 1 = _; omega, hcode, hturned⟩, ?_⟩
        rw [show i + 1 + 1 - k = (i + 1 - k) + 1 by omega]
        show _ = pkStep k W (nums l) (pkRun k W (nums l) (i + 1 - k)) (i + 1 - k)
        rw [← h4]
        unfold pkStep
        rw [if_pos hw]
        unfold candW
        rw [if_pos hw, ← hc, ← ht]
      · unfold scStep
        rw [if_neg h5, if_neg hge]
        refine ⟨⟨by show st.run + 1 = _; omega, hcode, hturned⟩, ?_⟩
        show (⟨st.next, st.prun, st.L, st.M⟩ : PkSt) = _
        rw [h4]
        by_cases hik : i + 1 < k
        · rw [show i + 1 + 1 - k = i + 1 - k by omega]
        · rw [show i + 1 + 1 - k = (i + 1 - k) + 1 by omega]
          have hw : ¬ isW (nums l) k (i + 1 - k) = true := by
            rw [isW_iff (nums l) hb5 k (i + 1) (by omega) (by omega)]
            omega
          show _ = pkStep k W (nums l) (pkRun k W (nums l) (i + 1 - k)) (i + 1 - k)
          unfold pkStep
          rw [if_neg hw]
end Go.Proofs.YtilcmkiihefkkabGreatDoor.Mn
end
section
set_option linter.unusedVariables false
set_option linter.unusedSimpArgs false
set_option maxRecDepth 100000
namespace Go.Proofs.YtilcmkiihefkkabGreatDoor.Mn
theorem candW_p {a : List Nat} {k p : Nat} {x : W3} (h : candW a k p = some x) : x.p = p := by
  unfold candW at h
  split at h
  · unfold candOf at h
    split at h
    · exact absurd h (by simp)
    · simp only [Option.some.injEq] at h
      rw [← h]
      rfl
  · exact absurd h (by simp)
theorem candW_isW {a : List Nat} {k p : Nat} {x : W3} (h : candW a k p = some x) : isW a k p = true := by
  unfold candW at h
  split at h
  · assumption
  · exact absurd h (by simp)
theorem nums_lt5 (l : List UInt8) : ∀ m ∈ nums l, m < 5 := by
  intro m hm
  simp [nums] at hm
  obtain ⟨c, _, rfl⟩ := hm
  have := numb_lt c
  omega
/-- the number of the partner -/
def comp (m : Nat) : Nat := if m = 4 then 4 else 3 - m
theorem numb_pbyte (m : Nat) (h : m < 5) : (numb (pbyte m)).toNat = comp m ∧ 0 ≤ numb (pbyte m) := by
  rcases (show m = 0 ∨ m = 1 ∨ m = 2 ∨ m = 3 ∨ m = 4 by omega) with rfl | rfl | rfl | rfl | rfl <;> decide
theorem nums_turnL (l : List UInt8) : nums (turnL l) = ((nums l).map comp).reverse := by
  unfold nums turnL
  rw [List.map_reverse, List.map_map, List.map_map]
  congr 1
  apply List.map_congr_left
  intro c _
  simp only [Function.comp]
  have := numb_lt c
  exact (numb_pbyte _ (by omega)).1
theorem seg_reverse (a : List Nat) (p k : Nat) (h : p + k ≤ a.length) : seg a.reverse p k = (seg a (a.length - k - p) k).reverse := by
  unfold seg
  apply List.ext_getElem
  · simp; omega
  · intro i h1 h2
    simp only [List.length_take, List.length_drop, List.length_reverse] at h1 h2
    rw [List.getElem_take, List.getElem_drop, List.getElem_reverse, List.getElem_reverse, List.getElem_take, List.getElem_drop]
    congr 1
    simp only [List.length_take, List.length_drop]
    omega
theorem seg_map (f : Nat → Nat) (a : List Nat) (p k : Nat) : seg (a.map f) p k = (seg a p k).map f := by
  unfold seg
  rw [← List.map_drop, ← List.map_take]
end Go.Proofs.YtilcmkiihefkkabGreatDoor.Mn
end
section
set_option linter.unusedVariables false
set_option linter.unusedSimpArgs false
set_option maxRecDepth 100000
namespace Go.Proofs.YtilcmkiihefkkabGreatDoor.Mn
open Go.RowKit
theorem good_list {s : ByteArray} (h : good s) : ∀ c ∈ s.data.toList, 0 ≤ numb c := by
  intro c hc
  obtain ⟨i, hi, rfl⟩ := List.mem_iff_getElem.1 hc
  exact h i (by simpa using hi)
theorem list_good {l : List UInt8} (h : ∀ c ∈ l, 0 ≤ numb c) : good ⟨l.toArray⟩ := by
  intro j hj
  have hj' : j < l.length := by
    have : (⟨l.toArray⟩ : ByteArray).size = l.length := by show l.toArray.size = _; simp
    omega
  exact h _ (List.getElem_mem hj')
end Go.Proofs.YtilcmkiihefkkabGreatDoor.Mn
end
