import Derived.Laws.Rows
import Derived.Test.YtilcmkiihefkkabGreatDoorJk20
import Derived.Test.YtilcmkiihefkkabGreatDoorJk37
import Derived.Test.YtilcmkiihefkkabGreatDoorKd1
section
set_option linter.unusedVariables false
set_option linter.unusedSimpArgs false
set_option maxRecDepth 100000
namespace Go.Proofs.YtilcmkiihefkkabGreatDoor.Mn
open Go.RowKit
attribute [local go_sem] run_store_flt
theorem upd3 {w : World} {g : Nat} {t : TypeId} {a0 a1 a2 : Value} (x0 x1 x2 : Value) (h : w.heap[g]? = some (.cells #[a0, a1, a2] t (0, 0))) : Upd w (((w.setCell ⟨g, 0, none⟩ x0).setCell ⟨g, 1, none⟩ x1).setCell ⟨g, 2, none⟩ x2) g (.cells #[x0, x1, x2] t (0, 0)) := by
  exact ((Upd.of_setCell (i := 0) x0 h).setCell (i := 1) x1).setCell (i := 2) x2
set_option maxHeartbeats 1000000 in
theorem roptions_any (s : ByteArray) (B : Nat) (w : World) (h : RrP w B s) (hs : s.size ≤ 140737488355328) :
    Calls Tryz.prog 26 #[.pointer (some ⟨B, 0, none⟩)] w fun e w' => e = .returned (.agg #[.int .i64 (roK s.data.toList), .int .i64 (roW s.data.toList), .float .f64 (roS s.data.toList)]) ∧ (∃ t, RrP w' B t ∧ t.data.toList = s.data.toList.drop 10) ∧ RrF B w w' := by
  obtain ⟨wA, hwA⟩ : ∃ W1 : World, W1 = w.alloc (Obj.cells #[.int .i64 0, .int .i64 0, .float .f64 0] 24) := ⟨_, rfl⟩
  have hbA : Below w.heap.size w wA := by rw [hwA]; exact (Below.refl _ _).alloc (Nat.le_refl _) _
  have hnA : wA.heap[w.heap.size]? = some (.cells #[.int .i64 0, .int .i64 0, .float .f64 0] 24 (0, 0)) := by rw [hwA]; exact heap_alloc_new w _
  have hBl : B < w.heap.size := lt_of_block h
  have hPA : RrP wA B s := (hbA.block B hBl).trans h
  have hFA : RrF B w wA := RrF.of hbA
  have c1 := rnumber_any s 1 B wA hPA (by omega) hs
  have hff := fun W n => run_ffrom n W
  have HNA : Hid (wA.heap[w.heap.size]? = some (.cells #[.int .i64 0, .int .i64 0, .float .f64 0] 24 (0, 0))) := hnA
  have HFA : Hid (RrF B w wA) := hFA
  clear h hbA hnA hPA hFA
  go_enter Tryz.func26, Tryz.ntmps26
  go_wp2_with fail
  rw [← hwA]
  clear hwA
  refine c1.mono ?_
  rintro e w1 ⟨rfl, hP1, hF1⟩
  have c2 := rnumber_any (drS 1 s) 1 B w1 hP1 (by omega) (Nat.le_trans (drS_size _ _) hs)
  have HF1 : Hid (RrF B wA w1) := hF1
  clear hP1 hF1 c1
  go_wp2_with fail
  refine c2.mono ?_
  rintro e w2 ⟨rfl, hP2, hF2⟩
  have c3 := rpattern_any (drS 1 (drS 1 s)) 8 B w2 hP2 (by omega) (Nat.le_trans (drS_size _ _) (Nat.le_trans (drS_size _ _) hs))
  have HF2 : Hid (RrF B wA w2) := HF1.out.trans hF2
  clear hP2 hF2 c2 HF1
  go_wp2_with fail
  refine c3.mono ?_
  rintro e w3 ⟨rfl, hP3, hF3⟩
  have hF3' := HF2.out.trans hF3
  have hn3 : w3.heap[w.heap.size]? = some (.cells #[.int .i64 0, .int .i64 0, .float .f64 0] 24 (0, 0)) := (hF3'.other _ (lt_of_block HNA.out) (by omega)).trans HNA.out
  have HP3 : Hid (RrP w3 B (drS 8 (drS 1 (drS 1 s)))) := hP3
  have HF3 : Hid (RrF B wA w3) := hF3'
  have f0 : ∀ i, w3.frozen? ⟨w.heap.size, i, none⟩ = false := fun i => frozen_of_row _ _ _ _ _ hn3
  have hU := upd3 (.int .i64 (rdB (s.data.toList.take 1))) (.int .i64 (rdB ((drS 1 s).data.toList.take 1))) (.float .f64 (rdB ((drS 1 (drS 1 s)).data.toList.take 8))) hn3
  have HU : Hid _ := hU
  have q0 : w3.cell? ⟨w.heap.size, 0, none⟩ = some (.int .i64 0) := cell_at hn3 rfl
  have q1 : w3.cell? ⟨w.heap.size, 1, none⟩ = some (.int .i64 0) := cell_at hn3 rfl
  have q2 : w3.cell? ⟨w.heap.size, 2, none⟩ = some (.float .f64 0) := cell_at hn3 rfl
  have f1 := f0 0
  have f2 := f0 1
  have f3 := f0 2
  clear hU f0 hn3 hP3 hF3 hF3' c3 HF2
  go_wp2_with fail
  refine bodyPost_ret (results_cell_row rfl _ _ w.heap.size 24 _ _ _ rfl HU.out.here Tryz.underlying24 rfl (by kernel_rfl)) rfl ?_
  have e1 : (drS 1 s).data.toList = s.data.toList.drop 1 := drS_list 1 s
  have e2 : (drS 1 (drS 1 s)).data.toList = s.data.toList.drop 2 := by rw [drS_list, e1, List.drop_drop]
  have e3 : (drS 8 (drS 1 (drS 1 s))).data.toList = s.data.toList.drop 10 := by rw [drS_list, e2, List.drop_drop]
  refine ⟨?_, ⟨_, (HU.out.other B (by omega)).trans HP3.out, e3⟩, ?_⟩
  · rw [e1, e2]; rfl
  · have h03 := HFA.out.trans HF3.out
    exact ⟨HU.out.os.trans h03.os, HU.out.tape.trans h03.tape, HU.out.output.trans h03.output, by rw [HU.out.size]; exact h03.size, fun j hj hB => (HU.out.other j (by omega)).trans (h03.other j hj hB)⟩
end Go.Proofs.YtilcmkiihefkkabGreatDoor.Mn
end
section
set_option linter.unusedVariables false
set_option linter.unusedSimpArgs false
set_option maxRecDepth 100000
namespace Go.Proofs.YtilcmkiihefkkabGreatDoor.Mn
open Go.RowKit
theorem ba_loop (bs : ByteArray) : ∀ (n i : Nat) (r : List UInt8), bs.size - i = n → ByteArray.toList.loop bs i r = r.reverse ++ bs.data.toList.drop i := by
  intro n
  induction n with
  | zero =>
    intro i r h
    rw [ByteArray.toList.loop, if_neg (by omega), List.drop_eq_nil_of_le (show bs.data.toList.length ≤ i by show bs.size ≤ i; omega), List.append_nil]
  | succ n ih =>
    intro i r h
    have hi : i < bs.data.toList.length := by show i < bs.size; omega
    rw [ByteArray.toList.loop, if_pos (by omega), ih (i + 1) _ (by omega), List.reverse_cons, List.append_assoc, List.drop_eq_getElem_cons hi]
    have hi2 : i < bs.data.size := hi
    have e : bs.get! i = bs.data.toList[i] := by
      show bs.data[i]! = _
      rw [getElem!_pos bs.data i hi2]
      rfl
    rw [e]
    rfl
theorem ba_toList (bs : ByteArray) : bs.toList = bs.data.toList := by
  have := ba_loop bs (bs.size - 0) 0 [] rfl
  simpa [ByteArray.toList] using this
theorem ba_inj {a b : ByteArray} (h : a.toList = b.toList) : a = b := by
  rw [ba_toList, ba_toList] at h
  apply ByteArray.ext
  exact Array.toList_inj.1 h
set_option maxHeartbeats 2000000 in
theorem seqEq_one (y x : S2) (g o cp g2 : Nat) (w : World) (a0 : w.cell? ⟨g, o, none⟩ = some (.string y.n)) (a1 : w.cell? ⟨g, o + 1, none⟩ = some (.string y.b)) (b0 : w.cell? ⟨g2, 0, none⟩ = some (.string x.n)) (b1 : w.cell? ⟨g2, 1, none⟩ = some (.string x.b)) :
    Calls Tryz.prog 56 #[.slice (some ⟨g, o, none⟩) 1 cp, .slice (some ⟨g2, 0, none⟩) 1 1] w fun e w' => ∃ r : Bool, e = .returned (.bool r) ∧ (r = true ↔ y = x) ∧ Below w.heap.size w w' := by
  have HE : Hid _ := And.intro a0 (And.intro a1 (And.intro b0 b1))
  clear a0 a1 b0 b1
  go_enter Tryz.func56, Tryz.ntmps56
  go_wp2_with fail
  go_loopw [13] (fun i wr => (i = .int .i64 0 ∧ wr = w) ∨ (i = .int .i64 1 ∧ y = x ∧ Below w.heap.size w wr)) (fun i _ => 1 - (RowKit.intOf i).toNat)
  case atStart => exact Or.inl ⟨rfl, rfl⟩
  case round =>
    rcases hrel with ⟨rfl, rfl⟩ | ⟨rfl, he, hb⟩
    · obtain ⟨a0, a1, b0, b1⟩ := HE.out
      go_wp2_with fail
      refine wp_region_X 9 (fun W => W.cell? ⟨g, o, none⟩ = some (.string y.n) ∧ W.cell? ⟨g, o + 1, none⟩ = some (.string y.b) ∧ W.cell? ⟨g2, 0, none⟩ = some (.string x.n) ∧ W.cell? ⟨g2, 1, none⟩ = some (.string x.b)) (by kernel_rfl) ⟨a0, a1, b0, b1⟩ (fun hH => ?_)
      refine wpZ 0 hH ?_
      refine wpZ 1 hH ?_
      refine wpZ 2 hH ?_
      refine wpZ 3 hH ?_
      refine wpZ 4 hH ?_
      refine wpZ 5 hH ?_
      refine wpZ 6 hH ?_
      refine wpZ 7 hH ?_
      have hbw : Below wr.heap.size wr wr.drew := ⟨rfl, rfl, rfl, Nat.le_refl _, fun _ _ => rfl⟩
      have HBW : Hid (Below wr.heap.size wr wr.drew) := hbw
      clear hbw
      by_cases h1 : y.n.toList = x.n.toList
      · by_cases h2 : y.b.toList = x.b.toList
        · have HYX : Hid (y = x) := by
            show _ = _
            obtain ⟨yn, yb⟩ := y
            obtain ⟨xn, xb⟩ := x
            simp only at h1 h2
            rw [ba_inj h1, ba_inj h2]
          refine wpZ 8 hH ?_
          refine wpAnyX_done (by kernel_rfl) ?_
          clear hH
          go_wp2_with fail
          go_roundw
          case rel => exact Or.inr ⟨by go_num, HYX.out, HBW.out⟩
          case measure => simp [RowKit.intOf]
        · have HYX : Hid (y ≠ x) := fun e => h2 (by rw [e])
          refine wpZ 8 hH ?_
          refine wpAnyX_done (by kernel_rfl) ?_
          clear hH
          go_wp2_with fail
          go_ret
          exact ⟨false, rfl, ⟨fun h => by (cases h), fun h => absurd h HYX.out⟩, HBW.out⟩
      · have HYX : Hid (y ≠ x) := fun e => h1 (by rw [e])
        refine wpZ 8 hH ?_
        refine wpAnyX_done (by kernel_rfl) ?_
        clear hH
        go_wp2_with fail
        go_ret
        exact ⟨false, rfl, ⟨fun h => by (cases h), fun h => absurd h HYX.out⟩, HBW.out⟩
    · have HB : Hid (Below w.heap.size w wr) := hb
      clear hb
      go_wp2_with fail
      go_ret
      exact ⟨true, rfl, ⟨fun _ => he, fun _ => rfl⟩, HB.out⟩
theorem seqEq_ne (ao ao' : Option Addr) (n cp cp' : Nat) (w : World) (hn : n ≠ 1) (hn2 : n ≤ 100000) :
    Calls Tryz.prog 56 #[.slice ao n cp, .slice ao' 1 cp'] w fun e w' => e = .returned (.bool false) ∧ w' = w := by
  have h1 : ((n : Int) == 1) = false := by rw [beq_eq_false_iff_ne]; omega
  have h2 : ¬ (n : Int) = 1 := by omega
  go_enter Tryz.func56, Tryz.ntmps56
  go_wp2
  go_ret
  exact ⟨rfl, rfl⟩
end Go.Proofs.YtilcmkiihefkkabGreatDoor.Mn
end
