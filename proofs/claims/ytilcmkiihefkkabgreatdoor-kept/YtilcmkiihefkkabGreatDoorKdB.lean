import Derived.Laws.Rows
import Derived.StringKeys
import Derived.Test.YtilcmkiihefkkabGreatDoorJk20
import Derived.Test.YtilcmkiihefkkabGreatDoorJk37
import Derived.Test.YtilcmkiihefkkabGreatDoorJk43
import Derived.Test.YtilcmkiihefkkabGreatDoorKd1
section
set_option linter.unusedVariables false
set_option linter.unusedSimpArgs false
set_option maxRecDepth 100000
namespace Go.Proofs.YtilcmkiihefkkabGreatDoor.Mn
open Go.RowKit
attribute [local go_sem] run_store_flt
theorem upd3 {w : World} {g : Nat} {t : TypeId} {a0 a1 a2 : Value} (x0 x1 x2 : Value) (h : w.heap[g]? = some (.cells #[a0, a1, a2] t (0, 0))) : Upd w (((w.setCell ⟨g, 0, none⟩ x0).setCell ⟨g, 1, none⟩ x1).setCell ⟨g, 2, none⟩ x2) g (.cells #[x0, x1, x2] t (0, 0)) := by
  exact ((Upd.of_setCell (i := 0) x0 h).setCell (i := 1) x1).setCell (i := 2) x2
set_option maxHeartbeats 1000000 in
theorem roptions_any (s : ByteArray) (B : Nat) (w : World) (h : RrP w B s) (hs : s.size ≤ 140737488355328) :
    Calls Tryz.prog 26 #[.pointer (some ⟨B, 0, none⟩)] w fun e w' => e = .returned (.agg #[.int .i64 (roK s.data.toList), .int .i64 (roW s.data.toList), .float .f64 (roS s.data.toList)]) ∧ (∃ t, RrP w' B t ∧ t.data.toList = s.data.toList.drop 10) ∧ RrF B w w' := by
  obtain ⟨wA, hwA⟩ : ∃ W1 : World, W1 = w.alloc (Obj.cells #[.int .i64 0, .int .i64 0, .float .f64 0] 24) := ⟨_, rfl⟩
  have hbA : Below w.heap.size w wA := by rw [hwA]; exact (Below.refl _ _).alloc (Nat.le_refl _) _
  have hnA : wA.heap[w.heap.size]? = some (.cells #[.int .i64 0, .int .i64 0, .float .f64 0] 24 (0, 0)) := by rw [hwA]; exact heap_alloc_new w _
  have hBl : B < w.heap.size := lt_of_block h
  have hPA : RrP wA B s := (hbA.block B hBl).trans h
  have hFA : RrF B w wA := RrF.of hbA
  have c1 := rnumber_any s 1 B wA hPA (by omega) hs
  have hff := fun W n => run_ffrom n W
  have HNA : Hid (wA.heap[w.heap.size]? = some (.cells #[.int .i64 0, .int .i64 0, .float .f64 0] 24 (0, 0))) := hnA
  have HFA : Hid (RrF B w wA) := hFA
  clear h hbA hnA hPA hFA
  go_enter Tryz.func26, Tryz.ntmps26
  go_wp2_with fail
  rw [← hwA]
  clear hwA
  refine c1.mono ?_
  rintro e w1 ⟨rfl, hP1, hF1⟩
  have c2 := rnumber_any (drS 1 s) 1 B w1 hP1 (by omega) (Nat.le_trans (drS_size _ _) hs)
  have HF1 : Hid (RrF B wA w1) := hF1
  clear hP1 hF1 c1
  go_wp2_with fail
  refine c2.mono ?_
  rintro e w2 ⟨rfl, hP2, hF2⟩
  have c3 := rpattern_any (drS 1 (drS 1 s)) 8 B w2 hP2 (by omega) (Nat.le_trans (drS_size _ _) (Nat.le_trans (drS_size _ _) hs))
  have HF2 : Hid (RrF B wA w2) := HF1.out.trans hF2
  clear hP2 hF2 c2 HF1
  go_wp2_with fail
  refine c3.mono ?_
  rintro e w3 ⟨rfl, hP3, hF3⟩
  have hF3' := HF2.out.trans hF3
  have hn3 : w3.heap[w.heap.size]? = some (.cells #[.int .i64 0, .int .i64 0, .float .f64 0] 24 (0, 0)) := (hF3'.other _ (lt_of_block HNA.out) (by omega)).trans HNA.out
  have HP3 : Hid (RrP w3 B (drS 8 (drS 1 (drS 1 s)))) := hP3
  have HF3 : Hid (RrF B wA w3) := hF3'
  have f0 : ∀ i, w3.frozen? ⟨w.heap.size, i, none⟩ = false := fun i => frozen_of_row _ _ _ _ _ hn3
  have hU := upd3 (.int .i64 (rdB (s.data.toList.take 1))) (.int .i64 (rdB ((drS 1 s).data.toList.take 1))) (.float .f64 (rdB ((drS 1 (drS 1 s)).data.toList.take 8))) hn3
  have HU : Hid _ := hU
  have q0 : w3.cell? ⟨w.heap.size, 0, none⟩ = some (.int .i64 0) := cell_at hn3 rfl
  have q1 : w3.cell? ⟨w.heap.size, 1, none⟩ = some (.int .i64 0) := cell_at hn3 rfl
  have q2 : w3.cell? ⟨w.heap.size, 2, none⟩ = some (.float .f64 0) := cell_at hn3 rfl
  have f1 := f0 0
  have f2 := f0 1
  have f3 := f0 2
  clear hU f0 hn3 hP3 hF3 hF3' c3 HF2
  go_wp2_with fail
  refine bodyPost_ret (results_cell_row rfl _ _ w.heap.size 24 _ _ _ rfl HU.out.here Tryz.underlying24 rfl (by kernel_rfl)) rfl ?_
  have e1 : (drS 1 s).data.toList = s.data.toList.drop 1 := drS_list 1 s
  have e2 : (drS 1 (drS 1 s)).data.toList = s.data.toList.drop 2 := by rw [drS_list, e1, List.drop_drop]
  have e3 : (drS 8 (drS 1 (drS 1 s))).data.toList = s.data.toList.drop 10 := by rw [drS_list, e2, List.drop_drop]
  refine ⟨?_, ⟨_, (HU.out.other B (by omega)).trans HP3.out, e3⟩, ?_⟩
  · rw [e1, e2]; rfl
  · have h03 := HFA.out.trans HF3.out
    exact ⟨HU.out.os.trans h03.os, HU.out.tape.trans h03.tape, HU.out.output.trans h03.output, by rw [HU.out.size]; exact h03.size, fun j hj hB => (HU.out.other j (by omega)).trans (h03.other j hj hB)⟩
end Go.Proofs.YtilcmkiihefkkabGreatDoor.Mn
end
section
set_option linter.unusedVariables false
set_option linter.unusedSimpArgs false
set_option maxRecDepth 100000
namespace Go.Proofs.YtilcmkiihefkkabGreatDoor.Mn
open Go.RowKit
theorem ba_loop (bs : ByteArray) : ∀ (n i : Nat) (r : List UInt8), bs.size - i = n → ByteArray.toList.loop bs i r = r.reverse ++ bs.data.toList.drop i := by
  intro n
  induction n with
  | zero =>
    intro i r h
    rw [ByteArray.toList.loop, if_neg (by omega), List.drop_eq_nil_of_le (show bs.data.toList.length ≤ i by show bs.size ≤ i; omega), List.append_nil]
  | succ n ih =>
    intro i r h
    have hi : i < bs.data.toList.length := by show i < bs.size; omega
    rw [ByteArray.toList.loop, if_pos (by omega), ih (i + 1) _ (by omega), List.reverse_cons, List.append_assoc, List.drop_eq_getElem_cons hi]
    have hi2 : i < bs.data.size := hi
    have e : bs.get! i = bs.data.toList[i] := by
      show bs.data[i]! = _
      rw [getElem!_pos bs.data i hi2]
      rfl
    rw [e]
    rfl
theorem ba_toList (bs : ByteArray) : bs.toList = bs.data.toList := by
  have := ba_loop bs (bs.size - 0) 0 [] rfl
  simpa [ByteArray.toList] using this
theorem ba_inj {a b : ByteArray} (h : a.toList = b.toList) : a = b := by
  rw [ba_toList, ba_toList] at h
  apply ByteArray.ext
  exact Array.toList_inj.1 h
set_option maxHeartbeats 2000000 in
theorem seqEq_one (y x : S2) (g o cp g2 : Nat) (w : World) (a0 : w.cell? ⟨g, o, none⟩ = some (.string y.n)) (a1 : w.cell? ⟨g, o + 1, none⟩ = some (.string y.b)) (b0 : w.cell? ⟨g2, 0, none⟩ = some (.string x.n)) (b1 : w.cell? ⟨g2, 1, none⟩ = some (.string x.b)) :
    Calls Tryz.prog 56 #[.slice (some ⟨g, o, none⟩) 1 cp, .slice (some ⟨g2, 0, none⟩) 1 1] w fun e w' => ∃ r : Bool, e = .returned (.bool r) ∧ (r = true ↔ y = x) ∧ Below w.heap.size w w' := by
  have HE : Hid _ := And.intro a0 (And.intro a1 (And.intro b0 b1))
  clear a0 a1 b0 b1
  go_enter Tryz.func56, Tryz.ntmps56
  go_wp2_with fail
  go_loopw [13] (fun i wr => (i = .int .i64 0 ∧ wr = w) ∨ (i = .int .i64 1 ∧ y = x ∧ Below w.heap.size w wr)) (fun i _ => 1 - (RowKit.intOf i).toNat)
  case atStart => exact Or.inl ⟨rfl, rfl⟩
  case round =>
    rcases hrel with ⟨rfl, rfl⟩ | ⟨rfl, he, hb⟩
    · obtain ⟨a0, a1, b0, b1⟩ := HE.out
      go_wp2_with fail
      refine wp_region_X 9 (fun W => W.cell? ⟨g, o, none⟩ = some (.string y.n) ∧ W.cell? ⟨g, o + 1, none⟩ = some (.string y.b) ∧ W.cell? ⟨g2, 0, none⟩ = some (.string x.n) ∧ W.cell? ⟨g2, 1, none⟩ = some (.string x.b)) (by kernel_rfl) ⟨a0, a1, b0, b1⟩ (fun hH => ?_)
      refine wpZ 0 hH ?_
      refine wpZ 1 hH ?_
      refine wpZ 2 hH ?_
      refine wpZ 3 hH ?_
      refine wpZ 4 hH ?_
      refine wpZ 5 hH ?_
      refine wpZ 6 hH ?_
      refine wpZ 7 hH ?_
      have hbw : Below wr.heap.size wr wr.drew := ⟨rfl, rfl, rfl, Nat.le_refl _, fun _ _ => rfl⟩
      have HBW : Hid (Below wr.heap.size wr wr.drew) := hbw
      clear hbw
      by_cases h1 : y.n.toList = x.n.toList
      · by_cases h2 : y.b.toList = x.b.toList
        · have HYX : Hid (y = x) := by
            show _ = _
            obtain ⟨yn, yb⟩ := y
            obtain ⟨xn, xb⟩ := x
            simp only at h1 h2
            rw [ba_inj h1, ba_inj h2]
          refine wpZ 8 hH ?_
          refine wpAnyX_done (by kernel_rfl) ?_
          clear hH
          go_wp2_with fail
          go_roundw
          case rel => exact Or.inr ⟨by go_num, HYX.out, HBW.out⟩
          case measure => simp [RowKit.intOf]
        · have HYX : Hid (y ≠ x) := fun e => h2 (by rw [e])
          refine wpZ 8 hH ?_
          refine wpAnyX_done (by kernel_rfl) ?_
          clear hH
          go_wp2_with fail
          go_ret
          exact ⟨false, rfl, ⟨fun h => by (cases h), fun h => absurd h HYX.out⟩, HBW.out⟩
      · have HYX : Hid (y ≠ x) := fun e => h1 (by rw [e])
        refine wpZ 8 hH ?_
        refine wpAnyX_done (by kernel_rfl) ?_
        clear hH
        go_wp2_with fail
        go_ret
        exact ⟨false, rfl, ⟨fun h => by (cases h), fun h => absurd h HYX.out⟩, HBW.out⟩
    · have HB : Hid (Below w.heap.size w wr) := hb
      clear hb
      go_wp2_with fail
      go_ret
      exact ⟨true, rfl, ⟨fun _ => he, fun _ => rfl⟩, HB.out⟩
theorem seqEq_ne (ao ao' : Option Addr) (n cp cp' : Nat) (w : World) (hn : n ≠ 1) (hn2 : n ≤ 100000) :
    Calls Tryz.prog 56 #[.slice ao n cp, .slice ao' 1 cp'] w fun e w' => e = .returned (.bool false) ∧ w' = w := by
  have h1 : ((n : Int) == 1) = false := by rw [beq_eq_false_iff_ne]; omega
  have h2 : ¬ (n : Int) = 1 := by omega
  go_enter Tryz.func56, Tryz.ntmps56
  go_wp2
  go_ret
  exact ⟨rfl, rfl⟩
end Go.Proofs.YtilcmkiihefkkabGreatDoor.Mn
end
section
set_option linter.unusedVariables false
set_option linter.unusedSimpArgs false
set_option maxRecDepth 100000
namespace Go.Proofs.YtilcmkiihefkkabGreatDoor.Mn
open Go.RowKit
/-- a reference that is read: its name, its bases, what is left -/
def rfN (l : List UInt8) : List UInt8 := (l.drop 1).take (rdB (l.take 1))
def rfL (l : List UInt8) : List UInt8 := (l.drop 1).drop (rdB (l.take 1))
def rfB (l : List UInt8) : List UInt8 := ((rfL l).drop 2).take (rdB ((rfL l).take 2))
def rfR (l : List UInt8) : List UInt8 := ((rfL l).drop 2).drop (rdB ((rfL l).take 2))
def rfX (l : List UInt8) : S2 := ⟨⟨(rfN l).toArray⟩, ⟨(rfB l).toArray⟩⟩
def rfT (x : S2) : ByteArray := (((⟨#[62]⟩ : ByteArray) ++ x.n) ++ ⟨#[10]⟩) ++ x.b
def RfOk (l : List UInt8) : Prop := (parseR (rfT (rfX l))).1 = [rfX l]
theorem rd_small (l : List UInt8) (n : Nat) (hn : n ≤ 2) : rdB (l.take n) < 65536 := by
  have h1 := rdB_lt (l.take n)
  have h2 := Nat.pow_le_pow_right (show 0 < 256 by omega) (show (l.take n).length ≤ 2 by rw [List.length_take]; omega)
  omega
theorem ba_of {a : ByteArray} {l : List UInt8} (h : a.data.toList = l) : a = ⟨l.toArray⟩ := by
  apply ByteArray.ext
  rw [← h]
theorem upd2 {w : World} {g : Nat} {t : TypeId} {a0 a1 : Value} (x0 x1 : Value) (h : w.heap[g]? = some (.cells #[a0, a1] t (0, 0))) : Upd w ((w.setCell ⟨g, 0, none⟩ x0).setCell ⟨g, 1, none⟩ x1) g (.cells #[x0, x1] t (0, 0)) :=
  (Upd.of_setCell (i := 0) x0 h).setCell (i := 1) x1
def RfV (x : S2) : Bool → Value
  | true => .agg #[.string x.n, .string x.b]
  | false => .agg #[.string ⟨#[]⟩, .string ⟨#[]⟩]
def RfP (l : List UInt8) (B : Nat) (w : World) (e : Ending) (w' : World) : Prop :=
  ∃ r : Bool, (r = true ↔ RfOk l) ∧ e = .returned (.tuple #[RfV (rfX l) r, .bool r]) ∧ (∃ t, RrP w' B t ∧ t.data.toList = rfR l) ∧ RrF B w w'
set_option maxHeartbeats 4000000 in
theorem rreference_any (s : ByteArray) (B : Nat) (w : World) (h : RrP w B s) (hs : s.size ≤ 140737488355328) :
    Calls Tryz.prog 43 #[.pointer (some ⟨B, 0, none⟩)] w fun e w' => RfP s.data.toList B w e w' := by
  obtain ⟨l, hl⟩ : ∃ l, l = s.data.toList := ⟨_, rfl⟩
  have HLE : Hid (l = s.data.toList) := hl
  obtain ⟨wA, hwA⟩ : ∃ W1 : World, W1 = w.alloc (Obj.cells #[.string ⟨#[]⟩, .string ⟨#[]⟩] 62) := ⟨_, rfl⟩
  have hbA : Below w.heap.size w wA := by rw [hwA]; exact (Below.refl _ _).alloc (Nat.le_refl _) _
  have hnA : wA.heap[w.heap.size]? = some (.cells #[.string ⟨#[]⟩, .string ⟨#[]⟩] 62 (0, 0)) := by rw [hwA]; exact heap_alloc_new w _
  have hBl : B < w.heap.size := lt_of_block h
  have c1 := rnumber_any s 1 B wA ((hbA.block B hBl).trans h) (by omega) hs
  have HNA : Hid (wA.heap[w.heap.size]? = some (.cells #[.string ⟨#[]⟩, .string ⟨#[]⟩] 62 (0, 0))) := hnA
  have HFA : Hid (RrF B w wA) := RrF.of hbA
  obtain ⟨n1, hn1⟩ : ∃ n1, n1 = rdB (s.data.toList.take 1) := ⟨_, rfl⟩
  have hn1l : n1 < 65536 := by rw [hn1]; exact rd_small _ 1 (by omega)
  rw [← hn1] at c1
  obtain ⟨x, hx⟩ : ∃ x, x = rfX l := ⟨_, rfl⟩
  have e1 : (drS 1 s).data.toList = l.drop 1 := by rw [hl]; exact drS_list 1 s
  have e2 : tkS n1 (drS 1 s) = x.n := by
    rw [hx, hn1, ← hl]
    exact ba_of (by rw [tkS_list, e1]; rfl)
  have e3 : (drS n1 (drS 1 s)).data.toList = rfL l := by rw [drS_list, e1, hn1, ← hl]; rfl
  obtain ⟨s2, hs2⟩ : ∃ s2, s2 = drS n1 (drS 1 s) := ⟨_, rfl⟩
  obtain ⟨s1, hs1⟩ : ∃ s1, s1 = drS 1 s := ⟨_, rfl⟩
  rw [← hs1] at c1 e2 hs2
  rw [← hs1, ← hs2] at e3
  have hs1l : s1.size ≤ 140737488355328 := by rw [hs1]; exact Nat.le_trans (drS_size _ _) hs
  have hs2l : s2.size ≤ 140737488355328 := by rw [hs2]; exact Nat.le_trans (drS_size _ _) hs1l
  obtain ⟨n2, hn2⟩ : ∃ n2, n2 = rdB (s2.data.toList.take 2) := ⟨_, rfl⟩
  have hn2l : n2 < 65536 := by rw [hn2]; exact rd_small _ 2 (by omega)
  obtain ⟨s3, hs3⟩ : ∃ s3, s3 = drS 2 s2 := ⟨_, rfl⟩
  have e4 : s3.data.toList = (rfL l).drop 2 := by rw [hs3, drS_list, e3]
  have e5 : tkS n2 s3 = x.b := by
    rw [hx, hn2]
    exact ba_of (by rw [tkS_list, e4, e3]; rfl)
  have e6 : (drS n2 s3).data.toList = rfR l := by rw [drS_list, e4, hn2, e3]; rfl
  have hs3l : s3.size ≤ 140737488355328 := by rw [hs3]; exact Nat.le_trans (drS_size _ _) hs2l
  have hxn : x.n.size ≤ 65536 := by rw [← e2, tkS_size]; omega
  have hxb : x.b.size ≤ 65536 := by rw [← e5, tkS_size]; omega
  have HX : Hid (x = rfX l) := hx
  have HS2 : Hid (s2 = drS n1 s1) := hs2
  have HS3 : Hid (s3 = drS 2 s2) := hs3
  have HN2 : Hid (n2 = rdB (s2.data.toList.take 2)) := hn2
  have E2 : Hid (tkS n1 s1 = x.n) := e2
  have E5 : Hid (tkS n2 s3 = x.b) := e5
  have E6 : Hid ((drS n2 s3).data.toList = rfR l) := e6
  rw [← hl]
  clear hbA hnA h hn1 hx e1 e2 e3 hs1 hs2 hn2 hs3 e4 e5 e6 hl
  go_enter Tryz.func43, Tryz.ntmps43
  go_wp2_with fail
  rw [← hwA]
  clear hwA
  refine c1.mono ?_
  rintro e w1 ⟨rfl, hP1, hF1⟩
  have c2 := rtext_any s1 n1 B w1 hP1 (by omega) hs1l
  rw [E2.out, ← HS2.out] at c2
  have HF1 : Hid (RrF B wA w1) := hF1
  clear hP1 hF1 c1
  go_wp2_with fail
  refine c2.mono ?_
  rintro e w2 ⟨rfl, hP2, hF2⟩
  have c3 := rnumber_any s2 2 B w2 hP2 (by omega) hs2l
  rw [← HN2.out, ← HS3.out] at c3
  have HF2 : Hid (RrF B wA w2) := HF1.out.trans hF2
  clear hP2 hF2 c2 HF1
  go_wp2_with fail
  refine c3.mono ?_
  rintro e w3 ⟨rfl, hP3, hF3⟩
  have c4 := rtext_any s3 n2 B w3 hP3 (by omega) hs3l
  rw [E5.out] at c4
  have HF3 : Hid (RrF B wA w3) := HF2.out.trans hF3
  clear hP3 hF3 c3 HF2
  go_wp2_with fail
  refine c4.mono ?_
  rintro e w4 ⟨rfl, hP4, hF4⟩
  have HF4 : Hid (RrF B wA w4) := HF3.out.trans hF4
  have HP4 : Hid (RrP w4 B (drS n2 s3)) := hP4
  clear hP4 hF4 c4 HF3
  have hz : (((⟨#[62]⟩ : ByteArray) ++ x.n) ++ ⟨#[10]⟩).size = x.n.size + 2 := by
    rw [ByteArray.size_append, ByteArray.size_append]
    show 1 + x.n.size + 1 = _
    omega
  have hz1 : ((⟨#[62]⟩ : ByteArray) ++ x.n).size = x.n.size + 1 := by
    rw [ByteArray.size_append]
    show 1 + x.n.size = _
    omega
  have hz2 : (rfT x).size ≤ 200000 := by unfold rfT; rw [ByteArray.size_append, hz]; omega
  go_wp2_with fail
  refine (parse_any (rfT x) w4 (by omega)).mono ?_
  rintro e w5 ⟨v, rfl, hown, _, hb5⟩
  have HRO : Hid (RfOk l ↔ (parseR (rfT x)).1 = [x]) := by rw [HX.out]; exact Iff.rfl
  obtain ⟨P, hP⟩ : ∃ P, P = (parseR (rfT x)).1 := ⟨_, rfl⟩
  rw [← hP] at hown HRO
  have hPl : P.length ≤ 8000 := by rw [hP]; exact (parseR_ok (rfT x)).1
  generalize (parseR (rfT x)).2.1 = pe
  generalize (parseR (rfT x)).2.2 = pl
  clear hP
  obtain ⟨pa, pc, rfl⟩ := hown.form
  have hF5 := HF4.out.trans (RrF.of hb5)
  have hn5 : w5.heap[w.heap.size]? = some (.cells #[.string ⟨#[]⟩, .string ⟨#[]⟩] 62 (0, 0)) := (hF5.other _ (lt_of_block HNA.out) (by omega)).trans HNA.out
  have hP5 : RrP w5 B (drS n2 s3) := (hb5.block B (lt_of_block HP4.out)).trans HP4.out
  have HF5 : Hid (RrF B wA w5) := hF5
  have hW5 := hF5.size
  have hA5 : w.heap.size < w5.heap.size := lt_of_block hn5
  -- the end, either way
  have HFIN : Hid (∀ (W6 : World) (r : Bool) (c0 c1 : Value), Below w5.heap.size w5 W6 → (r = true ↔ RfOk l) → RfV (rfX l) r = .agg #[c0, c1] →
      RfP l B w (.returned (.tuple #[.agg #[c0, c1], .bool r])) ((W6.setCell ⟨w.heap.size, 0, none⟩ c0).setCell ⟨w.heap.size, 1, none⟩ c1) ∧ W6.heap[w.heap.size]? = some (.cells #[.string ⟨#[]⟩, .string ⟨#[]⟩] 62 (0, 0)) ∧ ((W6.setCell ⟨w.heap.size, 0, none⟩ c0).setCell ⟨w.heap.size, 1, none⟩ c1).heap[w.heap.size]? = some (.cells #[c0, c1] 62 (0, 0))) := by
    intro W6 r c0 c1 hb6 hr hv
    have hn6 := (hb6.block _ hA5).trans hn5
    have hU := upd2 c0 c1 hn6
    refine ⟨⟨r, hr, by rw [hv], ⟨_, ?_, E6.out⟩, ?_⟩, hn6, hU.here⟩
    · exact (hU.other B (by omega)).trans ((hb6.block B (lt_of_block hP5)).trans hP5)
    · have h06 := HFA.out.trans (HF5.out.trans (RrF.of hb6))
      exact ⟨hU.os.trans h06.os, hU.tape.trans h06.tape, hU.output.trans h06.output, by rw [hU.size]; exact h06.size, fun j hj hB => (hU.other j (by omega)).trans (h06.other j hj hB)⟩
  have hbB : Below w5.heap.size w5 (w5.alloc (Obj.cells #[.string x.n, .string x.b] 62)) := (Below.refl _ _).alloc (Nat.le_refl _) _
  have hnB : (w5.alloc (Obj.cells #[.string x.n, .string x.b] 62)).heap[w5.heap.size]? = some (.cells #[.string x.n, .string x.b] 62 (0, 0)) := heap_alloc_new w5 _
  obtain ⟨wB, hwB⟩ : ∃ W1 : World, W1 = w5.alloc (Obj.cells #[.string x.n, .string x.b] 62) := ⟨_, rfl⟩
  rw [← hwB] at hbB hnB
  have HBB : Hid (Below w5.heap.size w5 wB) := hbB
  have b0 : wB.cell? ⟨w5.heap.size, 0, none⟩ = some (.string x.n) := cell_at hnB rfl
  have b1 : wB.cell? ⟨w5.heap.size, 1, none⟩ = some (.string x.b) := cell_at hnB rfl
  by_cases hP1 : P.length = 1
  · obtain ⟨y, rfl⟩ : ∃ y, P = [y] := by
      match P, hP1 with
      | [y], _ => exact ⟨y, rfl⟩
    obtain ⟨g, o, rfl, hgl⟩ : ∃ g o, pa = some ⟨g, o, none⟩ ∧ g < w5.heap.size := by
      rcases hown.2 with ⟨_, h'⟩ | ⟨g, o, cap, cur, h, _, hg, _⟩
      · cases h'
      · simp only [Value.slice.injEq] at h
        exact ⟨g, o, h.1, lt_of_block hg⟩
    have hown1 : OwnR w5 w4.heap.size 62 2 (.slice (some ⟨g, o, none⟩) 1 pc) 1 (qcells [y]) := hown
    have hc := (hown1.other (w' := wB) (fun g' _ hlt' => hbB.block g' hlt')).seqs 0 (by simp)
    have a0 : wB.cell? ⟨g, o, none⟩ = some (.string y.n) := hc.1
    have a1 : wB.cell? ⟨g, o + 1, none⟩ = some (.string y.b) := hc.2
    have cE := seqEq_one y x g o pc w5.heap.size wB a0 a1 b0 b1
    have HYC : Hid (∀ W6, Below wB.heap.size wB W6 → W6.cell? ⟨g, o, none⟩ = some (.string y.n) ∧ W6.cell? ⟨g, o + 1, none⟩ = some (.string y.b)) := fun W6 h6 => ⟨(World.cell?_of_block (h6.block g (Nat.lt_of_lt_of_le hgl hbB.size))).trans a0, (World.cell?_of_block (h6.block g (Nat.lt_of_lt_of_le hgl hbB.size))).trans a1⟩
    clear hown hown1 hc hn5 hP5 hF5 hb5 hbB hnB b0 b1 a0 a1 HP4 HF4
    go_wp2_with fail
    rw [← hwB]
    clear hwB
    refine cE.mono ?_
    rintro e w6 ⟨r, rfl, hr, hb6⟩
    have hb56 : Below w5.heap.size w5 w6 := HBB.out.trans (hb6.mono HBB.out.size)
    obtain ⟨y0, y1⟩ := HYC.out w6 hb6
    cases r
    · have hne : ¬ RfOk l := fun h => by
        have := HRO.out.1 h
        rw [List.cons.injEq] at this
        have := hr.2 this.1
        cases this
      obtain ⟨F1, F2, F3⟩ := HFIN.out w6 false (.string ⟨#[]⟩) (.string ⟨#[]⟩) hb56 ⟨fun h => by (cases h), fun h => absurd h hne⟩ rfl
      have F1' : Hid _ := F1
      have F3' : Hid _ := F3
      have q0 := cell_at F2 (i := 0) rfl
      have q1 := cell_at F2 (i := 1) rfl
      have f0 : w6.frozen? ⟨w.heap.size, 0, none⟩ = false := frozen_of_row _ _ _ _ _ F2
      have f1 : w6.frozen? ⟨w.heap.size, 1, none⟩ = false := frozen_of_row _ _ _ _ _ F2
      clear F1 F2 F3 cE y0 y1 hr hne
      go_wp2_with fail
      refine bodyPost_ret (results_ct rfl _ _ w.heap.size 62 _ _ _ rfl F3'.out Tryz.underlying62 rfl (by kernel_rfl)) rfl ?_
      exact F1'.out
    · have hyx : y = x := hr.1 rfl
      subst hyx
      obtain ⟨F1, F2, F3⟩ := HFIN.out w6 true (.string y.n) (.string y.b) hb56 ⟨fun _ => HRO.out.2 rfl, fun _ => rfl⟩ (by rw [← HX.out]; rfl)
      have F1' : Hid _ := F1
      have F3' : Hid _ := F3
      have q0 := cell_at F2 (i := 0) rfl
      have q1 := cell_at F2 (i := 1) rfl
      have f0 : w6.frozen? ⟨w.heap.size, 0, none⟩ = false := frozen_of_row _ _ _ _ _ F2
      have f1 : w6.frozen? ⟨w.heap.size, 1, none⟩ = false := frozen_of_row _ _ _ _ _ F2
      clear F1 F2 F3 cE hr
      go_wp2_with fail
      refine bodyPost_ret (results_ct rfl _ _ w.heap.size 62 _ _ _ rfl F3'.out Tryz.underlying62 rfl (by kernel_rfl)) rfl ?_
      exact F1'.out
  · have cE := seqEq_ne pa (some ⟨w5.heap.size, 0, none⟩) P.length pc 1 wB hP1 (by omega)
    have hne : ¬ RfOk l := fun h => hP1 (by rw [HRO.out.1 h]; rfl)
    obtain ⟨F1, F2, F3⟩ := HFIN.out wB false (.string ⟨#[]⟩) (.string ⟨#[]⟩) hbB ⟨fun h => by (cases h), fun h => absurd h hne⟩ rfl
    have F1' : Hid _ := F1
    have F3' : Hid _ := F3
    have q0 := cell_at F2 (i := 0) rfl
    have q1 := cell_at F2 (i := 1) rfl
    have f0 : wB.frozen? ⟨w.heap.size, 0, none⟩ = false := frozen_of_row _ _ _ _ _ F2
    have f1 : wB.frozen? ⟨w.heap.size, 1, none⟩ = false := frozen_of_row _ _ _ _ _ F2
    obtain ⟨pn, hpn⟩ : ∃ pn, pn = P.length := ⟨_, rfl⟩
    rw [← hpn] at cE ⊢
    clear F1 F2 F3 hne hpn hown hn5 hP5 hF5 hb5 hbB hnB b0 b1 HP4 HF4
    go_wp2_with fail
    rw [← hwB]
    clear hwB
    refine cE.mono ?_
    rintro e w6 ⟨rfl, rfl⟩
    go_wp2_with fail
    refine bodyPost_ret (results_ct rfl _ _ w.heap.size 62 _ _ _ rfl F3'.out Tryz.underlying62 rfl (by kernel_rfl)) rfl ?_
    exact F1'.out
end Go.Proofs.YtilcmkiihefkkabGreatDoor.Mn
end
section
set_option linter.unusedVariables false
set_option linter.unusedSimpArgs false
set_option maxRecDepth 100000
namespace Go.Proofs.YtilcmkiihefkkabGreatDoor.Mn
open Go.RowKit Go.Maps Go.WideMaps
/-- the references that are read -/
def RdsP : Nat → List UInt8 → List S2 → List S2 → Prop
  | 0, _, acc, R => R = acc
  | m + 1, l, acc, R => (RfOk l ∧ ¬ hasN acc (rfX l).n ∧ RdsP m (rfR l) (acc ++ [rfX l]) R) ∨ (¬ (RfOk l ∧ ¬ hasN acc (rfX l).n) ∧ R = [])
theorem RdsP.uniq : ∀ (m : Nat) (l : List UInt8) (acc R R' : List S2), RdsP m l acc R → RdsP m l acc R' → R = R'
  | 0, _, acc, R, R', h, h' => h.trans h'.symm
  | m + 1, l, acc, R, R', h, h' => by
    rcases h with ⟨h1, h2, h3⟩ | ⟨h1, h2⟩ <;> rcases h' with ⟨k1, k2, k3⟩ | ⟨k1, k2⟩
    · exact RdsP.uniq m _ _ _ _ h3 k3
    · exact absurd ⟨h1, h2⟩ k1
    · exact absurd ⟨k1, k2⟩ h1
    · rw [h2, k2]
theorem rfR_len (l : List UInt8) : (rfR l).length ≤ l.length := by
  unfold rfR rfL
  simp only [List.length_drop]
  omega
theorem size_of {t : ByteArray} {l : List UInt8} (h : t.data.toList = l) : t.size = l.length := by rw [← h]; rfl
/-- names known by a map -/
theorem has_snoc {D : DataW Unit} {L : List S2} {x : S2} {d : DataW Unit} (hD : Maps.IsMap D) (hh : ∀ s : ByteArray, Maps.has D (.string s.data.toList) = true ↔ hasN L s) : ∀ s : ByteArray, Maps.has (D.put (.string x.n.data.toList) d) (.string s.data.toList) = true ↔ hasN (L ++ [x]) s := by
  intro s
  by_cases hsn : s = x.n
  · subst hsn
    exact ⟨fun _ => ⟨x, by simp, rfl⟩, fun _ => Maps.has_put_same hD (show WideAt.IsKeyLit (.string x.n.data.toList) from trivial) d⟩
  · have hne : (Lit.string s.data.toList) ≠ Lit.string x.n.data.toList := fun e => hsn (by
      simp only [Lit.string.injEq] at e
      exact WideShapes.bytes_inj e)
    rw [Maps.has_put_other hne, hh s]
    constructor
    · rintro ⟨y, hy, hys⟩
      exact ⟨y, by simp [hy], hys⟩
    · rintro ⟨y, hy, hys⟩
      rw [List.mem_append] at hy
      rcases hy with hy | hy
      · exact ⟨y, hy, hys⟩
      · simp at hy
        subst hy
        exact absurd hys.symm hsn
theorem sbox_cells (W : World) (a b : Value) (s : Nat) (hs : s = W.heap.size) : ∀ j u, ([a, b] : List Value)[j]? = some u → (W.alloc (.cells #[a, b] 62)).cell? ((⟨s, 0, none⟩ : Addr).add j) = some u := by
  intro j u hj
  subst hs
  have h := heap_alloc_new W (.cells #[a, b] 62)
  rw [Addr.add_lit, cell_of_row _ _ _ _ _ _ h]
  match j, hj with
  | 0, hj => simpa using hj
  | 1, hj => simpa using hj
/-- references under way -/
structure RsI (w : World) (B Bm N : Nat) (l0 : List UInt8) (j : Nat) (v : Value) (l : List UInt8) (acc : List S2) (D : DataW Unit) (wr : World) : Prop where
  rd : ∃ t, RrP wr B t ∧ t.data.toList = l
  ll : l.length ≤ 140737488355328
  go : ∀ R, RdsP (N - j) l acc R → RdsP N l0 [] R
  al : acc.length = j
  ow : OwnR wr w.heap.size 62 2 v j (qcells acc)
  mp : wr.ownsMap Tryz.prog 9 (plainElem Tryz.prog 3) Bm j D
  hs : ∀ s : ByteArray, Maps.has D (.string s.data.toList) = true ↔ hasN acc s
  fr : RrF B w wr
  lo : w.heap.size ≤ Bm
def RsP (l : List UInt8) (B : Nat) (w : World) (e : Ending) (w' : World) : Prop :=
  ∃ R v, e = .returned v ∧ RdsP (rdB (l.take 2)) (l.drop 2) [] R ∧ R.length ≤ 65536 ∧ OwnR w' w.heap.size 62 2 v R.length (qcells R) ∧ RrF B w w'
set_option maxHeartbeats 8000000 in
theorem rreferences_any (s : ByteArray) (B : Nat) (w : World) (h : RrP w B s) (hs : s.size ≤ 140737488355328) :
    Calls Tryz.prog 27 #[.pointer (some ⟨B, 0, none⟩)] w fun e w' => RsP s.data.toList B w e w' := by
  obtain ⟨i0, hi, hz0, hz1, hz2⟩ := info_parts Tryz.info62
  have hmm := run_makeMap (P := Tryz.prog) 79 w
  obtain ⟨wA, hwA⟩ : ∃ W1 : World, W1 = w.alloc (Obj.map #[] 0) := ⟨_, rfl⟩
  have hbA : Below w.heap.size w wA := by rw [hwA]; exact (Below.refl _ _).alloc (Nat.le_refl _) _
  have hBl : B < w.heap.size := lt_of_block h
  have hM0 : wA.ownsMap Tryz.prog 9 (plainElem Tryz.prog 3) w.heap.size 0 (.map [] : DataW Unit) := by
    rw [hwA]
    exact World.ownsMap_made w _ _ _
  have c1 := rnumber_any s 2 B wA ((hbA.block B hBl).trans h) (by omega) hs
  obtain ⟨N, hN⟩ : ∃ N, N = rdB (s.data.toList.take 2) := ⟨_, rfl⟩
  have hNl : N < 65536 := by rw [hN]; exact rd_small _ 2 (by omega)
  rw [← hN] at c1
  have HN : Hid (N = rdB (s.data.toList.take 2)) := hN
  have HM0 : Hid (wA.ownsMap Tryz.prog 9 (plainElem Tryz.prog 3) w.heap.size 0 (.map [] : DataW Unit)) := hM0
  have HFA : Hid (RrF B w wA) := RrF.of hbA
  clear hN hbA hM0 h
  go_enter Tryz.func27, Tryz.ntmps27
  go_wp2_with fail
  rw [← hwA]
  clear hwA
  refine c1.mono ?_
  rintro e w1 ⟨rfl, hP1, hF1⟩
  obtain ⟨l0, hl0⟩ : ∃ l0, l0 = s.data.toList.drop 2 := ⟨_, rfl⟩
  have hI0 : RsI w B w.heap.size N l0 0 (.slice none 0 0) l0 [] (.map []) w1 := by
    refine ⟨⟨_, hP1, by rw [hl0]; exact drS_list 2 s⟩, ?_, fun R hR => hR, rfl, OwnR.nil _ _ _ _, ownsMap_block HM0.out (hF1.other _ HM0.out.lt (by omega)), fun x => ?_, HFA.out.trans hF1, Nat.le_refl _⟩
    · rw [hl0, List.length_drop]
      have : s.data.toList.length = s.size := rfl
      omega
    · constructor
      · intro h; simp [Maps.has] at h
      · rintro ⟨_, h, _⟩; simp at h
  have HI0 := (show Hid _ from hI0)
  have HEND : Hid (∀ R v w', RdsP N l0 [] R → R.length ≤ 65536 → OwnR w' w.heap.size 62 2 v R.length (qcells R) → RrF B w w' → RsP s.data.toList B w (.returned v) w') := by
    intro R v w' h1 h2 h3 h4
    rw [HN.out, hl0] at h1
    exact ⟨R, v, rfl, h1, h2, h3, h4⟩
  clear hI0 hP1 hF1 hl0 c1 HM0 HFA hmm
  go_wp2_with fail
  go_loopw [3, 13] (fun v i wr => ∃ (j : Nat) (l : List UInt8) (acc : List S2) (D : DataW Unit), j ≤ N ∧ i = .int .i64 j ∧ RsI w B w.heap.size N l0 j v l acc D wr) (fun _ i _ => N - (RowKit.intOf i).toNat)
  case atStart => exact ⟨0, _, _, _, Nat.zero_le _, rfl, HI0.out⟩
  case round =>
    obtain ⟨j, l, acc, D, hj, rfl, hI⟩ := hrel
    have HI : Hid (RsI w B w.heap.size N l0 j u3 l acc D wr) := hI
    by_cases hlt : j < N
    · obtain ⟨t, ht, htl⟩ := hI.rd
      have c2 := rreference_any t B wr ht (by rw [size_of htl]; exact hI.ll)
      rw [htl] at c2
      have HGO : Hid (∀ R, RdsP (N - (j + 1) + 1) l acc R → RdsP N l0 [] R) := by
        have := hI.go
        rw [show N - j = N - (j + 1) + 1 by omega] at this
        exact this
      obtain ⟨va, vc, hv⟩ := hI.ow.form
      subst hv
      have hNE : (Value.slice va j vc).ownBlock ≠ some B := hI.ow.tag (by decide) ht
      have hBmB : w.heap.size ≠ B := by omega
      clear hI ht htl
      go_wp2_with fail
      refine c2.mono ?_
      rintro e w2 ⟨r, hr, rfl, ⟨t2, ht2, ht2l⟩, hF2⟩
      have hsz := hF2.size
      have hmp2 : w2.ownsMap Tryz.prog 9 (plainElem Tryz.prog 3) w.heap.size j D := ownsMap_block HI.out.mp (hF2.other _ HI.out.mp.lt hBmB)
      have how2 : OwnR w2 w.heap.size 62 2 (.slice va j vc) j (qcells acc) := HI.out.ow.other (fun g hg hgl => hF2.other g hgl (fun e => hNE (by rw [hg, e])))
      have hfr2 : RrF B w w2 := HI.out.fr.trans hF2
      have HT2 : Hid (RrP w2 B t2 ∧ t2.data.toList = rfR l) := ⟨ht2, ht2l⟩
      have HFR2 : Hid (RrF B w w2) := hfr2
      have HOW2 : Hid (OwnR w2 w.heap.size 62 2 (.slice va j vc) j (qcells acc)) := how2
      have hw2l := hfr2.size
      clear c2 ht2 ht2l hF2 hfr2
      cases r
      · have hno : ¬ RfOk l := fun h => by have := hr.2 h; cases this
        have HNIL : Hid (RdsP N l0 [] []) := HGO.out [] (Or.inr ⟨fun h => hno h.1, rfl⟩)
        have hkey := keyOf_string_mk (P := Tryz.prog) Tryz.underlying9 (s := ⟨#[]⟩) (by decide)
        obtain ⟨wC, hwC⟩ : ∃ W1 : World, W1 = w2.alloc (Obj.cells #[.string ⟨#[]⟩, .string ⟨#[]⟩] 62) := ⟨_, rfl⟩
        have hnC : wC.heap[w2.heap.size]? = some (.cells #[.string ⟨#[]⟩, .string ⟨#[]⟩] 62 (0, 0)) := by rw [hwC]; exact heap_alloc_new w2 _
        have hbC : Below w2.heap.size w2 wC := by rw [hwC]; exact (Below.refl _ _).alloc (Nat.le_refl _) _
        have q0 : wC.cell? ⟨w2.heap.size, 0, none⟩ = some (.string ⟨#[]⟩) := cell_at hnC rfl
        have hmpC : wC.ownsMap Tryz.prog 9 (plainElem Tryz.prog 3) w.heap.size j D := ownsMap_block hmp2 (hbC.block _ hmp2.lt)
        have HFC : Hid (RrF B w wC) := HFR2.out.trans (RrF.of hbC)
        clear hnC hbC hno hr hmp2 how2
        have hRf : RfV (rfX l) false = .agg #[.string ⟨#[]⟩, .string ⟨#[]⟩] := rfl
        rw [hRf]
        subst hwC
        cases hh : Maps.has D (.string (⟨#[]⟩ : ByteArray).data.toList)
        · go_wp2_with (at_lookup; refine wpList_lookup_own_ok_int _ rfl _ _ 79 rfl 9 3 .i64 law9 Tryz.underlying79 Tryz.underlying3 (zero3 _) w.heap.size j D rfl hmpC _ _ rfl hkey ?_; intro c hat hwc; rw [hh])
          go_ret
          exact HEND.out [] _ _ HNIL.out (by simp) (OwnR.nil _ _ _ _) HFC.out
        · go_wp2_with (at_lookup; refine wpList_lookup_own_ok_int _ rfl _ _ 79 rfl 9 3 .i64 law9 Tryz.underlying79 Tryz.underlying3 (zero3 _) w.heap.size j D rfl hmpC _ _ rfl hkey ?_; intro c hat hwc; rw [hh])
          go_ret
          exact HEND.out [] _ _ HNIL.out (by simp) (OwnR.nil _ _ _ _) HFC.out
      · have hok : RfOk l := hr.1 rfl
        obtain ⟨x, hx⟩ : ∃ x, x = rfX l := ⟨_, rfl⟩
        have hxn : x.n.size ≤ maxLen := by
          have h1 : x.n.size = (rfN l).length := by rw [hx]; show (rfN l).toArray.size = _; simp
          have h2 := rd_small l 1 (by omega)
          unfold rfN at h1
          rw [List.length_take] at h1
          unfold maxLen
          omega
        have hRf : RfV (rfX l) true = .agg #[.string x.n, .string x.b] := by rw [hx]; rfl
        have HX : Hid (x = rfX l) := hx
        have HOK : Hid (RfOk l) := hok
        rw [hRf]
        have hkey := keyOf_string_mk (P := Tryz.prog) Tryz.underlying9 (s := x.n) hxn
        have hbC : Below w2.heap.size w2 (w2.alloc (Obj.cells #[.string x.n, .string x.b] 62)) := (Below.refl _ _).alloc (Nat.le_refl _) _
        have hnC : (w2.alloc (Obj.cells #[.string x.n, .string x.b] 62)).heap[w2.heap.size]? = some (.cells #[.string x.n, .string x.b] 62 (0, 0)) := heap_alloc_new w2 _
        have hmpC : (w2.alloc (Obj.cells #[.string x.n, .string x.b] 62)).ownsMap Tryz.prog 9 (plainElem Tryz.prog 3) w.heap.size j D := ownsMap_block hmp2 (hbC.block _ hmp2.lt)
        have HFC : Hid (RrF B w (w2.alloc (Obj.cells #[.string x.n, .string x.b] 62))) := HFR2.out.trans (RrF.of hbC)
        have HNC : Hid _ := hnC
        have HBC : Hid (Below w2.heap.size w2 (w2.alloc (Obj.cells #[.string x.n, .string x.b] 62))) := hbC
        have q0 : (w2.alloc (Obj.cells #[.string x.n, .string x.b] 62)).cell? ⟨w2.heap.size, 0, none⟩ = some (.string x.n) := cell_at hnC rfl
        have hhs := HI.out.hs x.n
        clear hbC hnC hr hok hx hRf
        cases hh : Maps.has D (.string x.n.data.toList)
        · have hnot : ¬ hasN acc x.n := fun h => by rw [hhs.2 h] at hh; cases hh
          have HNOT : Hid (¬ hasN acc x.n) := hnot
          obtain ⟨w3, hrun, hmap3, hg3⟩ := hmpC.update law9 Tryz.underlying79 (by unfold maxLen; omega) hkey (plainElem_int (a := (j : Int)) Tryz.underlying3 (WalkArith.wf_i64 (by omega)))
          have h3j : ∀ q, q < w2.heap.size + 1 → q ≠ w.heap.size → w3.heap[q]? = (w2.alloc (Obj.cells #[.string x.n, .string x.b] 62)).heap[q]? := fun q hq hne => hg3.block q (by simp; omega) (fun e => hne (Option.some.inj e))
          have hml := hmp2.lt
          have h3s : w2.heap.size + 1 ≤ w3.heap.size := by have := hg3.size; simp at this; exact this
          have hn3 : w3.heap[w2.heap.size]? = some (.cells #[.string x.n, .string x.b] 62 (0, 0)) := (h3j _ (by omega) (by omega)).trans HNC.out
          have hk3 : ∀ q, q < w2.heap.size → q ≠ w.heap.size → w3.heap[q]? = w2.heap[q]? := fun q hq hne => (h3j q (by omega) hne).trans (HBC.out.block q hq)
          have how3 : OwnR w3 w.heap.size 62 2 (.slice va j vc) j (qcells acc) := how2.other (fun g hg hgl => hk3 g hgl (fun e => how2.neMap hmp2 (by rw [hg, e])))
          have HRF3 : Hid (RrF B w w3) := ⟨hg3.os.trans HFC.out.os, hg3.tape.trans HFC.out.tape, hg3.output.trans HFC.out.output, by omega, fun q hq hqB => (hk3 q (by omega) (by omega)).trans (HFR2.out.other q hq hqB)⟩
          have HT3 : Hid (RrP w3 B t2 ∧ t2.data.toList = rfR l) := ⟨(hk3 B (lt_of_block HT2.out.1) (by omega)).trans HT2.out.1, HT2.out.2⟩
          have HM3 : Hid (w3.ownsMap Tryz.prog 9 (plainElem Tryz.prog 3) w.heap.size (j + 1) (D.put (.string x.n.data.toList) (.lit (.int .i64 (j : Int))))) := hmap3
          have HW3 : Hid (OwnR w3 w.heap.size 62 2 (.slice va j vc) j (qcells acc)) := how3
          have k0 : w3.cell? ⟨w2.heap.size, 0, none⟩ = some (.string x.n) := cell_at hn3 rfl
          have k1 : w3.cell? ⟨w2.heap.size, 1, none⟩ = some (.string x.b) := cell_at hn3 rfl
          have hlw3 : w.heap.size ≤ w3.heap.size := by omega
          clear hhs hnot h3j hn3 hk3 hg3 hmap3 h3s hml
          go_wp2_with (first
            | (at_lookup; refine wpList_lookup_own_ok_int _ rfl _ _ 79 rfl 9 3 .i64 law9 Tryz.underlying79 Tryz.underlying3 (zero3 _) w.heap.size j D rfl hmpC _ _ rfl hkey ?_; intro c hat hwc; rw [hh])
            | (at_builtin; refine wpList_own _ rfl (.tmp 37) (.tmp 39) 48 rfl 62 i0 _ 2 32 Tryz.underlying48 hi hz0 hz1 hz2 rfl (by decide) w.heap.size (.slice va j vc) j (qcells acc) rfl (by exact how3.other (fun g _ hg => Below.heap_alloc w3 _ g hg)) ⟨w3.heap.size, 0, none⟩ 1 [.string x.n, .string x.b] rfl rfl (by exact sbox_cells w3 _ _ _ rfl) (by intro u hu; simp at hu; rcases hu with rfl | rfl <;> rfl) (by unfold maxLen; omega) (by omega) (by simp; omega) ?_; intro g' o' cap' w8 hown' hfr))
          have hA3 : Below w3.heap.size w3 (w3.alloc (Obj.cells #[.string x.n, .string x.b] 62)) := (Below.refl _ _).alloc (Nat.le_refl _) _
          have hk8 : ∀ q, q < w3.heap.size → (Value.slice va j vc).ownBlock ≠ some q → w8.heap[q]? = w3.heap[q]? := fun q hq hne => (hfr.other q (Nat.lt_of_lt_of_le hq hA3.size) hne).trans (hA3.block q hq)
          have hs8 : w3.heap.size ≤ w8.heap.size := Nat.le_trans hA3.size hfr.size
          have hlt3 : ∀ q, (Value.slice va j vc).ownBlock = some q → w.heap.size ≤ q := fun q hq => (HW3.out.lt hq).1
          refine ⟨⟨j + 1, rfR l, acc ++ [x], D.put (.string x.n.data.toList) (.lit (.int .i64 (j : Int))), by omega, by go_num, ⟨t2, ?_, HT3.out.2⟩, Nat.le_trans (rfR_len l) HI.out.ll, fun R hR => ?_, ?_, ?_, ?_, ?_, ?_, Nat.le_refl _⟩, by simp [RowKit.intOf]; omega⟩
          · exact (hk8 B (lt_of_block HT3.out.1) (HW3.out.tag (by decide) HT3.out.1)).trans HT3.out.1
          · exact HGO.out R (Or.inl ⟨HOK.out, by rw [← HX.out]; exact HNOT.out, by rw [← HX.out]; exact hR⟩)
          · rw [List.length_append, HI.out.al]; rfl
          · rw [qcells_append]; exact hown'
          · exact ownsMap_block HM3.out (hk8 _ HM3.out.lt (HW3.out.neMap HM3.out))
          · exact has_snoc HI.out.mp.isMap HI.out.hs
          · exact ⟨hfr.os.trans HRF3.out.os, hfr.tape.trans HRF3.out.tape, hfr.output.trans HRF3.out.output, by have := HRF3.out.size; omega, fun q hq hqB => (hk8 q (by omega) (fun e => by have := hlt3 q e; omega)).trans (HRF3.out.other q hq hqB)⟩
        · have HNIL : Hid (RdsP N l0 [] []) := HGO.out [] (Or.inr ⟨fun h => h.2 (by rw [← HX.out]; exact hhs.1 hh), rfl⟩)
          clear hhs
          go_wp2_with (at_lookup; refine wpList_lookup_own_ok_int _ rfl _ _ 79 rfl 9 3 .i64 law9 Tryz.underlying79 Tryz.underlying3 (zero3 _) w.heap.size j D rfl hmpC _ _ rfl hkey ?_; intro c hat hwc; rw [hh])
          go_ret
          exact HEND.out [] _ _ HNIL.out (by simp) (OwnR.nil _ _ _ _) HFC.out
    · have hjN : j = N := by omega
      have HR : Hid (RdsP N l0 [] acc) := by
        have := hI.go acc
        rw [hjN, Nat.sub_self] at this
        exact this rfl
      have HAL : Hid (acc.length = j) := hI.al
      obtain ⟨va, vc, hv⟩ := hI.ow.form
      subst hv
      clear hI
      go_wp2_with fail
      go_ret
      refine HEND.out acc _ _ HR.out (by rw [HAL.out]; omega) ?_ HI.out.fr
      rw [HAL.out]
      exact HI.out.ow
end Go.Proofs.YtilcmkiihefkkabGreatDoor.Mn
end
