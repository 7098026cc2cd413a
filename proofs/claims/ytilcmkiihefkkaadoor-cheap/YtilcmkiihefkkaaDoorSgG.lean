import Derived.Test.YtilcmkiihefkkaaDoorSgF
set_option linter.unusedVariables false
set_option linter.unusedSimpArgs false
set_option maxRecDepth 100000
namespace Go.Proofs.YtilcmkiihefkkaaDoor
open Go.RowKit Go.Shelf

/-- a byte and its number, or none of both -/
def numOf (o : Option UInt8) : Nat × UInt8 := match o with
  | some c => ((numb c).toNat, c)
  | none => (9, 0)

theorem numOf_eq (a b : Option UInt8) (ha : ∀ c, a = some c → 0 ≤ numb c) (hb : ∀ c, b = some c → 0 ≤ numb c) : ((numOf a).1 = (numOf b).1 ↔ (numOf a).2 = (numOf b).2) ∧ ((numOf a).1 = 4 ↔ (numOf a).2 = 78) := by
  have f : ∀ (o : Option UInt8), (∀ c, o = some c → 0 ≤ numb c) → numOf o ∈ ([(0, 65), (1, 67), (2, 71), (3, 84), (4, 78), (9, 0)] : List (Nat × UInt8)) := by
    intro o ho
    cases o with
    | none => simp [numOf]
    | some c =>
      have h := ho c rfl
      show ((numb c).toNat, c) ∈ _
      rcases numb_cases c with ⟨rfl, e⟩ | ⟨rfl, e⟩ | ⟨rfl, e⟩ | ⟨rfl, e⟩ | ⟨rfl, e⟩ | ⟨e, _⟩
      · rw [e]; decide
      · rw [e]; decide
      · rw [e]; decide
      · rw [e]; decide
      · rw [e]; decide
      · omega
  have h1 := f a ha
  have h2 := f b hb
  generalize numOf a = x at h1
  generalize numOf b = y at h2
  revert h1 h2
  have key : ∀ x ∈ ([(0, 65), (1, 67), (2, 71), (3, 84), (4, 78), (9, 0)] : List (Nat × UInt8)), ∀ y ∈ ([(0, 65), (1, 67), (2, 71), (3, 84), (4, 78), (9, 0)] : List (Nat × UInt8)), (x.1 = y.1 ↔ x.2 = y.2) ∧ (x.1 = 4 ↔ x.2 = 78) := by decide
  intro h1 h2
  exact key x h1 y h2

theorem nums_opt (l : List UInt8) (i : Nat) : (nums l).getD i 9 = (numOf l[i]?).1 ∧ l.getD i 0 = (numOf l[i]?).2 := by
  unfold nums
  rw [List.getD_eq_getElem?_getD, List.getElem?_map, List.getD_eq_getElem?_getD]
  cases l[i]? <;> exact ⟨rfl, rfl⟩

theorem good_opt {s : ByteArray} (h : good s) (i : Nat) : ∀ c, s.data.toList[i]? = some c → 0 ≤ numb c := fun c hc => (good_iff s).1 h c (List.mem_of_getElem? hc)

theorem sN_sR {read ref : ByteArray} (h1 : good read) (h2 : good ref) : sN (nums read.data.toList) (nums ref.data.toList) = sR read ref := by
  funext i j
  unfold sN sR sB
  obtain ⟨a1, a2⟩ := nums_opt read.data.toList i
  obtain ⟨b1, b2⟩ := nums_opt ref.data.toList j
  obtain ⟨k1, k2⟩ := numOf_eq _ _ (good_opt h1 i) (good_opt h2 j)
  rw [a1, a2, b1, b2]
  exact decide_eq_decide.2 (and_congr k1 (not_congr k2))

theorem uN_uR {read ref : ByteArray} (h1 : good read) (h2 : good ref) : uN (nums read.data.toList) (nums ref.data.toList) = uR read ref := by
  funext i j
  have h := congrFun (congrFun (sN_sR h1 h2) i) j
  have e1 : uN (nums read.data.toList) (nums ref.data.toList) i j = if sN (nums read.data.toList) (nums ref.data.toList) i j = true then 0 else 4 := by
    unfold uN prC sN
    simp only [decide_eq_true_eq]
  have e2 : uR read ref i j = if sR read ref i j = true then 0 else 4 := rfl
  rw [e1, e2, h]

theorem pth_fwd {read ref : ByteArray} (h1 : good read) (h2 : good ref) (hn : read.size ≤ 300) (hm : ref.size ≤ 600) : (pth (nums read.data.toList) (nums ref.data.toList)).reverse = fwd read ref := by
  have l1 : (nums read.data.toList).length = read.size := by rw [nums_length]; simp
  have l2 : (nums ref.data.toList).length = ref.size := by rw [nums_length]; simp
  unfold pth fwd
  rw [l1, l2, uN_uR h1 h2, path_same 1048576 1000000000 (by omega) (by omega) (uR read ref) (uR_bd read ref) _ _ _ 0 hn hm]

theorem cnt_fwd {read ref : ByteArray} (h1 : good read) (h2 : good ref) (hn : read.size ≤ 300) (hm : ref.size ≤ 600) : cntF (sR read ref) (fwd read ref) (0, 0) = cntB (sN (nums read.data.toList) (nums ref.data.toList)) (pth (nums read.data.toList) (nums ref.data.toList)) (nums read.data.toList).length (nums ref.data.toList).length := by
  have l1 : (nums read.data.toList).length = read.size := by rw [nums_length]; simp
  have l2 : (nums ref.data.toList).length = ref.size := by rw [nums_length]; simp
  rw [← pth_fwd h1 h2 hn hm, sN_sR h1 h2]
  refine cnt_same _ _ _ _ ?_
  unfold pth
  rw [uN_uR h1 h2]
  exact path_ends 1048576 (by omega) (uR read ref) (uR_bd read ref) _ _ _ 0 (by omega) (by omega) (Nat.le_refl _)

theorem scT_fwd {read ref : ByteArray} (h1 : good read) (h2 : good ref) (hn : read.size ≤ 300) (hm : ref.size ≤ 600) :
    scE read.data.toList ref.data.toList = 0 ∧ scT read.data.toList ref.data.toList = rtxt (rl (fwd read ref) (fwd read ref).length).2 ∧ scN read.data.toList ref.data.toList = cntF (sR read ref) (fwd read ref) (0, 0) := by
  have e1 : read.data.toList.length = read.size := by simp
  have e2 : ref.data.toList.length = ref.size := by simp
  have hE : scE read.data.toList ref.data.toList = 0 := by
    unfold scE
    rw [e1, e2, if_neg (by omega), if_pos ⟨(good_iff read).1 h1, (good_iff ref).1 h2⟩]
  refine ⟨hE, ?_, ?_⟩
  · unfold scT
    rw [if_pos hE, ← pth_fwd h1 h2 hn hm, List.length_reverse]
  · unfold scN
    rw [if_pos hE, cnt_fwd h1 h2 hn hm]

set_option maxHeartbeats 4000000 in
theorem rscript_any (read ref : ByteArray) (w : World) (hl1 : read.size ≤ 140737488351232) (hl2 : ref.size ≤ 140737488351232) (hNG : read.size ≤ 300 → ref.size ≤ 600 → NgC read ref) (hRL : read.size ≤ 300 → ref.size ≤ 600 → RlC read ref) :
    Calls Tryd.prog 6 #[.string read, .string ref] w fun e w' => e = .returned (.tuple #[.string ⟨(scT read.data.toList ref.data.toList).toArray⟩, .int .i64 (scN read.data.toList ref.data.toList : Nat), .int .i64 (scE read.data.toList ref.data.toList : Nat)]) ∧ Below w.heap.size w w' := by
  have e1 : read.data.toList.length = read.size := by simp
  have e2 : ref.data.toList.length = ref.size := by simp
  by_cases hlong : read.size > 300 ∨ ref.size > 600
  · have hE : scE read.data.toList ref.data.toList = 1 := by unfold scE; rw [e1, e2, if_pos hlong]
    have hT : scT read.data.toList ref.data.toList = [] := by unfold scT; rw [hE]; rfl
    have hN : scN read.data.toList ref.data.toList = 0 := by unfold scN; rw [hE]; rfl
    rw [hE, hT, hN]
    clear hE hT hN e1 e2 hNG hRL
    go_enter Tryd.func6, Tryd.ntmps6
    by_cases hr : read.size > 300
    · have hrI : (300 : Int) < read.size := by omega
      go_wp2_with fail
      go_ret3
      exact ⟨rfl, Below.refl _ _⟩
    · have hrI : ¬ (300 : Int) < read.size := by omega
      have hfI : (600 : Int) < ref.size := by omega
      go_wp2_with fail
      go_ret3
      exact ⟨rfl, Below.refl _ _⟩
  · have hrI : ¬ (300 : Int) < read.size := by omega
    have hfI : ¬ (600 : Int) < ref.size := by omega
    have HNG : Hid (NgC read ref) := hNG (by omega) (by omega)
    have HRL : Hid (RlC read ref) := hRL (by omega) (by omega)
    have HBAD : Hid (∀ (h : ¬ (good read ∧ good ref)), scE read.data.toList ref.data.toList = 2 ∧ scT read.data.toList ref.data.toList = [] ∧ scN read.data.toList ref.data.toList = 0) := by
      intro h
      have h2 : scE read.data.toList ref.data.toList = 2 := by
        unfold scE
        rw [e1, e2, if_neg hlong, if_neg (fun hh => h ⟨(good_iff read).2 hh.1, (good_iff ref).2 hh.2⟩)]
      exact ⟨h2, by unfold scT; rw [h2]; rfl, by unfold scN; rw [h2]; rfl⟩
    have hn3 : read.size ≤ 300 := by omega
    have hm6 : ref.size ≤ 600 := by omega
    clear hNG hRL e1 e2
    go_enter Tryd.func6, Tryd.ntmps6
    go_wp2_with fail
    refine (bases_any read w hl1).mono ?_
    rintro e w' ⟨ha, hw⟩
    have hw2 := hw.symm
    clear hw
    subst hw2
    rcases ha with ⟨g1, rfl⟩ | ⟨g1, rfl⟩
    · have HG1 : Hid (good read) := g1
      clear g1
      go_wp2_with fail
      refine (bases_any ref w hl2).mono ?_
      rintro e w' ⟨hb, hw⟩
      have hw2 := hw.symm
      clear hw
      subst hw2
      rcases hb with ⟨g2, rfl⟩ | ⟨g2, rfl⟩
      · have hsc := scT_fwd HG1.out g2 hn3 hm6
        have HSC : Hid (scE read.data.toList ref.data.toList = 0 ∧ scT read.data.toList ref.data.toList = rtxt (rl (fwd read ref) (fwd read ref).length).2 ∧ scN read.data.toList ref.data.toList = cntF (sR read ref) (fwd read ref) (0, 0)) := hsc
        have HLE : Hid (∀ x ∈ fwd read ref, x ≤ 2) := fun x hx => path_le _ _ _ _ _ _ x (List.mem_reverse.1 hx)
        have hlen : (fwd read ref).length ≤ 900 := by
          have := path_len 1000000000 (uR read ref) (read.size + ref.size) read.size ref.size 0
          unfold fwd
          rw [List.length_reverse]
          omega
        clear hsc g2
        go_wp2_with fail
        refine (lettered_any read ref hn3 hm6 HNG.out HRL.out w).mono ?_
        rintro e w1 ⟨rfl, hb1⟩
        have HB1 : Hid (Below w.heap.size w w1) := hb1
        clear hb1
        go_wp2_with fail
        refine (rruns_any (fwd read ref) (fwd read ref).length rfl hlen HLE.out w1).mono ?_
        rintro e w2 ⟨rfl, hb2⟩
        have HB2 : Hid (Below w.heap.size w w2) := HB1.out.trans (hb2.mono HB1.out.size)
        clear hb2
        go_wp2_with fail
        go_ret3
        refine ⟨?_, HB2.out⟩
        rw [HSC.out.1, HSC.out.2.1, HSC.out.2.2]
        rfl
      · have hbad := HBAD.out (fun h => g2 h.2)
        have HH : Hid (scE read.data.toList ref.data.toList = 2 ∧ scT read.data.toList ref.data.toList = [] ∧ scN read.data.toList ref.data.toList = 0) := hbad
        clear hbad
        go_wp2_with fail
        go_ret3
        refine ⟨?_, Below.refl _ _⟩
        rw [HH.out.1, HH.out.2.1, HH.out.2.2]
        rfl
    · have hbad := HBAD.out (fun h => g1 h.1)
      have HH : Hid (scE read.data.toList ref.data.toList = 2 ∧ scT read.data.toList ref.data.toList = [] ∧ scN read.data.toList ref.data.toList = 0) := hbad
      clear hbad
      go_wp2_with fail
      refine (bases_any ref w hl2).mono ?_
      rintro e w' ⟨hb, hw⟩
      have hw2 := hw.symm
      clear hw
      subst hw2
      rcases hb with ⟨g2, rfl⟩ | ⟨g2, rfl⟩
      all_goals
        go_wp2_with fail
        go_ret3
        refine ⟨?_, Below.refl _ _⟩
        rw [HH.out.1, HH.out.2.1, HH.out.2.2]
        rfl
end Go.Proofs.YtilcmkiihefkkaaDoor
