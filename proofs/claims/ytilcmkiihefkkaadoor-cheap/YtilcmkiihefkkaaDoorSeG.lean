import Derived.Test.YtilcmkiihefkkaaDoorSeF
set_option linter.unusedVariables false
set_option linter.unusedSimpArgs false
set_option maxRecDepth 100000
namespace Go.Proofs.YtilcmkiihefkkaaDoor
open Go.RowKit Go.Shelf

set_option maxHeartbeats 4000000 in
theorem pscript_any (read ref : ByteArray) (w : World) (hl1 : read.size ≤ 140737488351232) (hl2 : ref.size ≤ 140737488351232) (htab : Lib.TabBelow Tryd.prog w.heap.size w "internal/strconv.uint64pow10" .u64 Lib.pow10Tab) :
    Calls Tryd.prog 5 #[.string read, .string ref] w fun e w' => e = .returned (.tuple #[.string ⟨(scT read.data.toList ref.data.toList).toArray⟩, .int .i64 (scN read.data.toList ref.data.toList : Nat), .int .i64 (scE read.data.toList ref.data.toList : Nat)]) ∧ Below w.heap.size w w' := by
  have HT : Hid (Lib.TabBelow Tryd.prog w.heap.size w "internal/strconv.uint64pow10" .u64 Lib.pow10Tab) := htab
  have e1 : read.data.toList.length = read.size := by simp
  have e2 : ref.data.toList.length = ref.size := by simp
  clear htab
  by_cases hlong : read.size > 300 ∨ ref.size > 600
  · have hE : scE read.data.toList ref.data.toList = 1 := by unfold scE; rw [e1, e2, if_pos hlong]
    have hT : scT read.data.toList ref.data.toList = [] := by unfold scT; rw [hE]; rfl
    have hN : scN read.data.toList ref.data.toList = 0 := by unfold scN; rw [hE]; rfl
    rw [hE, hT, hN]
    clear hE hT hN e1 e2
    go_enter Tryd.func5, Tryd.ntmps5
    by_cases hr : read.size > 300
    · have hrI : (300 : Int) < read.size := by omega
      go_wp2_with fail
      go_ret3
      exact ⟨rfl, Below.refl _ _⟩
    · have hrI : ¬ (300 : Int) < read.size := by omega
      have hfI : (600 : Int) < ref.size := by omega
      go_wp2_with fail
      go_ret3
      exact ⟨rfl, Below.refl _ _⟩
  · have hrI : ¬ (300 : Int) < read.size := by omega
    have hfI : ¬ (600 : Int) < ref.size := by omega
    have HE : Hid (good read → good ref → scE read.data.toList ref.data.toList = 0) := by
      intro h1 h2
      unfold scE
      rw [e1, e2, if_neg hlong, if_pos ⟨(good_iff read).1 h1, (good_iff ref).1 h2⟩]
    have HBAD : Hid (∀ (h : ¬ (good read ∧ good ref)), scE read.data.toList ref.data.toList = 2 ∧ scT read.data.toList ref.data.toList = [] ∧ scN read.data.toList ref.data.toList = 0) := by
      intro h
      have h2 : scE read.data.toList ref.data.toList = 2 := by
        unfold scE
        rw [e1, e2, if_neg hlong, if_neg (fun hh => h ⟨(good_iff read).2 hh.1, (good_iff ref).2 hh.2⟩)]
      exact ⟨h2, by unfold scT; rw [h2]; rfl, by unfold scN; rw [h2]; rfl⟩
    have hg := fun W => ngrid_any ref.size (by omega) W
    have ec := enterCol
    have er := enterRow
    go_enter Tryd.func5, Tryd.ntmps5
    go_wp2_with fail
    refine (hg _).mono ?_
    rintro e w1 ⟨B, vw, v0, rfl, hB, b1, b2, b3, b4⟩
    have HB4 : Hid (Below w.heap.size w w1) := b4
    have hI0 : ClI (nums ref.data.toList) w B vw 0 w1 := ⟨.slice none 0 0, v0, b1, OwnR.nil _ _ _ _, b2, b3, b4⟩
    have HI0 : Hid (ClI (nums ref.data.toList) w B vw 0 w1) := hI0
    clear b1 b2 b3 b4 hI0 hg
    go_wp2_with fail
    refine (eachBase_any 14 enterCol (.pointer (some ⟨B, 0, none⟩)) ref w1 (by omega) (ClI (nums ref.data.toList) w B vw) (fun k hk wx hn h => ClI.step ref w B vw hB (by omega) k hk wx hn h) HI0.out).mono ?_
    rintro e w2 ⟨k, hk, hI, hgd, hend⟩
    rcases hend with ⟨rfl, rfl⟩ | ⟨hk', hneg, rfl⟩
    · have hgood : good ref := fun j hj => hgd j hj hj
      have HG1 : Hid (good ref) := hgood
      obtain ⟨vf, v0', c1, c2, c3, c4, c5⟩ := hI
      have htk : (nums ref.data.toList).take ref.size = nums ref.data.toList := List.take_of_length_le (by rw [nums_length]; simp)
      rw [htk] at c2
      have hnl : (nums ref.data.toList).length = ref.size := by rw [nums_length]; simp
      have HI1 : Hid (RwI (nums read.data.toList) (nums ref.data.toList) w B vf 0 w2) := by
        refine ⟨.slice none 0 0, vw, [v0'], c1, OwnR.nil _ _ _ _, by rw [hnl]; exact c2, c3, fun i hi => ?_, fun g hg => by simp [Value.ownBlock] at hg, c5⟩
        have hi0 : i = 0 := by omega
        subst hi0
        exact ⟨v0', rfl, by rw [hnl]; exact c4⟩
      clear hgd hgood c1 c2 c3 c4 c5 htk HI0
      go_wp2_with fail
      refine (eachBase_any 15 enterRow (.pointer (some ⟨B, 0, none⟩)) read w2 (by omega) (RwI (nums read.data.toList) (nums ref.data.toList) w B vf) (fun k hk wx hn h => RwI.step read (nums ref.data.toList) w B vf hB (by omega) (by rw [hnl]; omega) k hk wx hn h) HI1.out).mono ?_
      rintro e w3 ⟨k, hk, hI, hgd, hend⟩
      rcases hend with ⟨rfl, rfl⟩ | ⟨hk', hneg, rfl⟩
      · have hgood : good read := fun j hj => hgd j hj hj
        have hE0 : scE read.data.toList ref.data.toList = 0 := HE.out hgood HG1.out
        obtain ⟨vr, vw3, VS, d1, d2, d3, d4, d5, d6, d7⟩ := hI
        have hrl : (nums read.data.toList).length = read.size := by rw [nums_length]; simp
        have htk : (nums read.data.toList).take read.size = nums read.data.toList := List.take_of_length_le (by rw [nums_length]; simp)
        rw [htk] at d2
        rw [hnl] at d3 d5
        have HS := scr_any (nums read.data.toList) (nums ref.data.toList) read.size ref.size w.heap.size B hrl hnl (by omega) (by omega) vr vf vw3 VS w3 d1 d2 d3 d4 d5
        have hpe : path 1048576 (uN (nums read.data.toList) (nums ref.data.toList)) (read.size + ref.size) read.size ref.size 0 = pth (nums read.data.toList) (nums ref.data.toList) := by unfold pth; rw [hrl, hnl]
        rw [hpe] at HS
        have hT0 : scT read.data.toList ref.data.toList = rtxt (rl (pth (nums read.data.toList) (nums ref.data.toList)).reverse (pth (nums read.data.toList) (nums ref.data.toList)).length).2 := by unfold scT; rw [if_pos hE0]
        have hN0 : scN read.data.toList ref.data.toList = cntB (sN (nums read.data.toList) (nums ref.data.toList)) (pth (nums read.data.toList) (nums ref.data.toList)) read.size ref.size := by unfold scN; rw [if_pos hE0, hrl, hnl]
        have hpl : (pth (nums read.data.toList) (nums ref.data.toList)).length ≤ 900 := by
          have := path_len 1048576 (uN (nums read.data.toList) (nums ref.data.toList)) ((nums read.data.toList).length + (nums ref.data.toList).length) (nums read.data.toList).length (nums ref.data.toList).length 0
          unfold pth
          omega
        have hple : ∀ x ∈ (pth (nums read.data.toList) (nums ref.data.toList)).reverse, x ≤ 2 := fun x hx => path_le _ _ _ _ _ _ x (List.mem_reverse.1 hx)
        obtain ⟨pp, hpp⟩ : ∃ pp, pp = pth (nums read.data.toList) (nums ref.data.toList) := ⟨_, rfl⟩
        obtain ⟨cn, hcn⟩ : ∃ cn, cn = cntB (sN (nums read.data.toList) (nums ref.data.toList)) pp read.size ref.size := ⟨_, rfl⟩
        rw [← hpp] at HS hT0 hN0 hpl hple
        rw [← hcn] at HS hN0
        have HE0 : Hid (scE read.data.toList ref.data.toList = 0) := hE0
        have HT0 : Hid (scT read.data.toList ref.data.toList = rtxt (rl pp.reverse pp.length).2) := hT0
        have HN0 : Hid (scN read.data.toList ref.data.toList = cn) := hN0
        have HD7 : Hid (Below w.heap.size w w3) := d7
        have HPL : Hid (pp.length ≤ 900 ∧ ∀ x ∈ pp.reverse, x ≤ 2) := ⟨hpl, hple⟩
        clear hE0 hT0 hN0 hgd hgood d1 d2 d3 d4 d5 d6 d7 hpe hpp hcn hrl hnl htk hpl hple
        go_wp2_with (go_at_call 16; refine HS.mono ?_; rintro e w4 ⟨v4, rfl, o4, b4⟩; have HO4 : Hid (OwnR w4 w3.heap.size 3 1 v4 pp.length (numV pp.reverse)) := o4; have HB5 : Hid (Below w3.heap.size w3 w4) := b4; clear o4 b4)
        have hs3 := HD7.out.size
        have hB04 : Below w.heap.size w w4 := HD7.out.trans (HB5.out.mono hs3)
        have HB04 : Hid (Below w.heap.size w w4) := hB04
        refine (runs_any pp.reverse pp.length (by simp) HPL.out.1 HPL.out.2 w3.heap.size v4 w4 HO4.out (fun W hb => HT.out W (HB04.out.trans (hb.mono HB04.out.size)))).mono ?_
        rintro e w5 ⟨rfl, b5⟩
        have HB05 : Hid (Below w.heap.size w w5) := HB04.out.trans (b5.mono HB04.out.size)
        clear b5 hB04 HS
        go_wp2_with fail
        go_ret3
        refine ⟨?_, HB05.out⟩
        rw [HE0.out, HT0.out, HN0.out]
        rfl
      · have hbad := HBAD.out (fun h => absurd (h.1 k hk') (by omega))
        have HH : Hid (scE read.data.toList ref.data.toList = 2 ∧ scT read.data.toList ref.data.toList = [] ∧ scN read.data.toList ref.data.toList = 0) := hbad
        obtain ⟨vr, vw3, VS, d1, d2, d3, d4, d5, d6, d7⟩ := hI
        have HD7 : Hid (Below w.heap.size w w3) := d7
        clear hbad d1 d2 d3 d4 d5 d6 d7 hgd hneg
        go_wp2_with fail
        go_ret3
        refine ⟨?_, HD7.out⟩
        rw [HH.out.1, HH.out.2.1, HH.out.2.2]
        rfl
    · have hbad := HBAD.out (fun h => absurd (h.2 k hk') (by omega))
      have HH : Hid (scE read.data.toList ref.data.toList = 2 ∧ scT read.data.toList ref.data.toList = [] ∧ scN read.data.toList ref.data.toList = 0) := hbad
      obtain ⟨vf, v0', c1, c2, c3, c4, c5⟩ := hI
      have HD7 : Hid (Below w.heap.size w w2) := c5
      clear hbad c1 c2 c3 c4 c5 hgd hneg
      go_wp2_with fail
      go_ret3
      refine ⟨?_, HD7.out⟩
      rw [HH.out.1, HH.out.2.1, HH.out.2.2]
      rfl
end Go.Proofs.YtilcmkiihefkkaaDoor
