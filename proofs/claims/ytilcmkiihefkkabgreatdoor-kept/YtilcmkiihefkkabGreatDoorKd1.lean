import Derived.Laws.BitsAllLaws
import Derived.Laws.BytesString
import Derived.Laws.Externs
import Derived.Lib.ConvBytes
import Derived.Test.YtilcmkiihefkkabGreatDoorJk26
section
set_option linter.unusedVariables false
set_option linter.unusedSimpArgs false
set_option maxRecDepth 100000
namespace Go.Proofs.YtilcmkiihefkkabGreatDoor.Mn
open Go.RowKit
/-- a reader as it lies, and what reading leaves alone -/
def RrP (w : World) (B : Nat) (s : ByteArray) : Prop := w.heap[B]? = some (.cells #[.string s] 70 (0, 0))
structure RrF (B : Nat) (w w' : World) : Prop where
  os : w'.os = w.os
  tape : w'.tape = w.tape
  output : w'.output = w.output
  size : w.heap.size ≤ w'.heap.size
  other : ∀ j, j < w.heap.size → j ≠ B → w'.heap[j]? = w.heap[j]?
theorem RrF.refl (B : Nat) (w : World) : RrF B w w := ⟨rfl, rfl, rfl, Nat.le_refl _, fun _ _ _ => rfl⟩
theorem RrF.trans {B : Nat} {a b c : World} (h : RrF B a b) (h' : RrF B b c) : RrF B a c := ⟨h'.os.trans h.os, h'.tape.trans h.tape, h'.output.trans h.output, Nat.le_trans h.size h'.size, fun j hj hB => (h'.other j (Nat.lt_of_lt_of_le hj h.size) hB).trans (h.other j hj hB)⟩
theorem RrF.of {B : Nat} {a b : World} (h : Below a.heap.size a b) : RrF B a b := ⟨h.os, h.tape, h.output, h.size, fun j hj _ => h.block j hj⟩
def tkS (n : Nat) (s : ByteArray) : ByteArray := s.extract 0 (min n s.size)
def drS (n : Nat) (s : ByteArray) : ByteArray := s.extract (min n s.size) s.size
theorem tkS_list (n : Nat) (s : ByteArray) : (tkS n s).data.toList = s.data.toList.take n := by
  unfold tkS
  rw [ByteArray.data_extract, Array.toList_extract]
  simp [List.take_eq_take_iff]
theorem drS_list (n : Nat) (s : ByteArray) : (drS n s).data.toList = s.data.toList.drop n := by
  unfold drS
  rw [ByteArray.data_extract, Array.toList_extract]
  have hl : s.data.toList.length = s.size := rfl
  show List.take (s.size - min n s.size) (List.drop (min n s.size) s.data.toList) = List.drop n s.data.toList
  rw [List.take_of_length_le (by rw [List.length_drop, hl]; exact Nat.le_refl _)]
  rcases Nat.le_total n s.size with h | h
  · rw [Nat.min_eq_left h]
  · rw [Nat.min_eq_right h, List.drop_eq_nil_of_le (by omega), List.drop_eq_nil_of_le (by omega)]
theorem tkS_size (n : Nat) (s : ByteArray) : (tkS n s).size = min n s.size := by
  unfold tkS
  rw [ByteArray.size_extract]; omega
theorem drS_size (n : Nat) (s : ByteArray) : (drS n s).size ≤ s.size := by
  unfold drS
  rw [ByteArray.size_extract]; omega
set_option maxHeartbeats 1000000 in
theorem rtext_any (s : ByteArray) (n B : Nat) (w : World) (h : RrP w B s) (hn : n ≤ 1000000) (hs : s.size ≤ 140737488355328) :
    Calls Tryz.prog 25 #[.pointer (some ⟨B, 0, none⟩), .int .i64 n] w fun e w' => e = .returned (.string (tkS n s)) ∧ RrP w' B (drS n s) ∧ RrF B w w' := by
  have c0 : w.cell? ⟨B, 0, none⟩ = some (.string s) := cell_at h rfl
  have f0 : w.frozen? ⟨B, 0, none⟩ = false := frozen_of_row _ _ _ _ _ h
  have HU : Hid (∀ t : ByteArray, Upd w (w.setCell ⟨B, 0, none⟩ (.string t)) B (.cells #[.string t] 70 (0, 0))) := fun t => Upd.of_setCell (i := 0) (.string t) h
  clear h
  have hend : ∀ m, m = min n s.size → s.extract 0 m = tkS n s ∧ s.extract m s.size = drS n s := fun m hm => by rw [hm]; exact ⟨rfl, rfl⟩
  have fin : ∀ t u, t = tkS n s → u = drS n s → Ending.returned (.string t) = .returned (.string (tkS n s)) ∧ RrP (w.setCell ⟨B, 0, none⟩ (.string u)) B (drS n s) ∧ RrF B w (w.setCell ⟨B, 0, none⟩ (.string u)) := fun t u ht hu => by
    subst ht hu
    have h := HU.out (drS n s)
    exact ⟨rfl, h.here, ⟨rfl, rfl, rfl, by rw [h.size]; exact Nat.le_refl _, fun j _ hj => h.other j hj⟩⟩
  have FIN := (show Hid _ from fin)
  clear fin HU
  by_cases hns : s.size < n
  · have HE := (show Hid _ from hend s.size (by omega))
    have hnI : (s.size : Int) < n := by omega
    have hnI2 : ¬ (n : Int) ≤ s.size := by omega
    have H1 : Hid (s = tkS n s) := by
      show _ = _
      apply ByteArray.ext
      apply Array.toList_inj.1
      rw [tkS_list, List.take_of_length_le (show s.data.toList.length ≤ n from Nat.le_of_lt hns)]
    have H2 : Hid (ByteArray.empty = drS n s) := by
      show _ = _
      apply ByteArray.ext
      apply Array.toList_inj.1
      rw [drS_list, List.drop_eq_nil_of_le (show s.data.toList.length ≤ n from Nat.le_of_lt hns)]
      rfl
    clear hend HE
    go_enter Tryz.func25, Tryz.ntmps25
    go_wp2_with fail
    go_ret
    exact FIN.out _ _ H1.out H2.out
  · have H1 := (show Hid _ from (hend n (by omega)).1)
    have H2 := (show Hid _ from (hend n (by omega)).2)
    have hnI : ¬ (s.size : Int) < n := by omega
    have hnI2 : (n : Int) ≤ s.size := by omega
    clear hend
    go_enter Tryz.func25, Tryz.ntmps25
    go_wp2_with fail
    go_ret
    exact FIN.out _ _ H1.out H2.out
theorem rdB_snoc (l : List UInt8) (b : UInt8) : rdB (l ++ [b]) = rdB l * 256 + b.toNat := by
  unfold rdB; rw [List.foldl_append]; rfl
theorem rdB_go : ∀ (l : List UInt8) (a : Nat), l.foldl (fun a b => a * 256 + b.toNat) a < (a + 1) * 256 ^ l.length
  | [], a => by simp
  | b :: t, a => by
    have h := rdB_go t (a * 256 + b.toNat)
    have hb := b.toNat_lt
    rw [List.foldl_cons, List.length_cons, Nat.pow_succ']
    refine Nat.lt_of_lt_of_le h ?_
    rw [← Nat.mul_assoc]
    exact Nat.mul_le_mul_right _ (by omega)
theorem rdB_lt (l : List UInt8) : rdB l < 256 ^ l.length := by
  have := rdB_go l 0
  rw [Nat.zero_add, Nat.one_mul] at this
  exact this
theorem rdB_take (L : List UInt8) (j : Nat) (hj : j < L.length) : rdB (L.take (j + 1)) = rdB (L.take j) * 256 + (L.getD j 0).toNat := by
  rw [List.take_add_one, List.getElem?_eq_getElem hj, List.getD_eq_getElem?_getD, List.getElem?_eq_getElem hj]
  exact rdB_snoc _ _
theorem or256 (a b : Nat) (ha : a < 72057594037927936) (hb : b < 256) : bits .or .u64 (IntKind.u64.wrap ((a : Int) * 256)) (IntKind.u64.wrap (b : Int)) = ((a * 256 + b : Nat) : Int) := by
  have e1 : IntKind.u64.wrap ((a : Int) * 256) = ((a * 256 : Nat) : Int) := by rw [IntKind.wrap_u64]; omega
  have e2 : IntKind.u64.wrap (b : Int) = (b : Int) := by rw [IntKind.wrap_u64]; omega
  rw [e1, e2, u64_or_nat _ _ (by omega) (by omega)]
  congr 1
  rw [show a * 256 = a <<< 8 by rw [Nat.shiftLeft_eq], Nat.shiftLeft_add_eq_or_of_lt hb]
set_option maxHeartbeats 2000000 in
theorem rpattern_any (s : ByteArray) (n B : Nat) (w : World) (h : RrP w B s) (hn : n ≤ 8) (hs : s.size ≤ 140737488355328) :
    Calls Tryz.prog 42 #[.pointer (some ⟨B, 0, none⟩), .int .i64 n] w fun e w' => e = .returned (.int .u64 (rdB (s.data.toList.take n))) ∧ RrP w' B (drS n s) ∧ RrF B w w' := by
  have cT := rtext_any s n B w h (by omega) hs
  obtain ⟨t, ht⟩ : ∃ t, t = tkS n s := ⟨_, rfl⟩
  have htl : t.size ≤ 8 := by rw [ht, tkS_size]; omega
  rw [← ht] at cT
  clear h
  go_enter Tryz.func42, Tryz.ntmps42
  go_wp2_with fail
  refine cT.mono ?_
  rintro e w1 ⟨rfl, hP1, hF1⟩
  have hcv := Lib.run_convert_string_bytes (P := Tryz.prog) w1 9 33 5 t (u := .string) Tryz.underlying9 Tryz.underlying33 Tryz.underlying5
  have hcc : ∀ j, j < t.size → (Lib.bytesWorld w1 5 t).cell? ⟨w1.heap.size, j, none⟩ = some (.int .u8 (t.data.toList.getD j 0).toNat) := fun j hj => Lib.bytesWorld_cell w1 5 t j hj
  have hb2 : Below w1.heap.size w1 (Lib.bytesWorld w1 5 t) := ⟨rfl, rfl, rfl, by rw [Lib.bytesWorld_size]; omega, fun j hj => Lib.bytesWorld_at_old w1 5 t j hj⟩
  obtain ⟨w2, hw2⟩ : ∃ w2, w2 = Lib.bytesWorld w1 5 t := ⟨_, rfl⟩
  rw [← hw2] at hcv hcc hb2
  have HEND : Hid (RrP w2 B (drS n s) ∧ RrF B w w2) := ⟨(hb2.block B (lt_of_block hP1)).trans hP1, hF1.trans (RrF.of hb2)⟩
  have HTL : Hid (s.data.toList.take n = t.data.toList) := by rw [ht]; exact (tkS_list n s).symm
  obtain ⟨L, hL⟩ : ∃ L, L = t.data.toList := ⟨_, rfl⟩
  have hLl : L.length = t.size := by rw [hL]; rfl
  obtain ⟨m, hm⟩ : ∃ m, m = t.size := ⟨_, rfl⟩
  rw [← hL] at hcc HTL
  rw [← hm] at hcv hcc hLl htl
  have HCC := (show Hid _ from hcc)
  have HLL : Hid (L.length = m) := hLl
  clear hb2 hP1 hF1 hw2 cT hcc hLl hL
  clear ht hm
  go_wp2_with fail
  go_loopw [5, 13] (fun v i wr => ∃ j : Nat, j ≤ m ∧ i = .int .i64 j ∧ v = .int .u64 (rdB (L.take j)) ∧ wr = w2) (fun _ i _ => m - (RowKit.intOf i).toNat)
  case atStart => exact ⟨0, Nat.zero_le _, rfl, rfl, rfl⟩
  case round =>
    obtain ⟨j, hj, rfl, rfl, rfl⟩ := hrel
    by_cases hlt : j < m
    · have d0 := HCC.out j hlt
      have hT := rdB_take L j (by have := HLL.out; omega)
      have hbd : rdB (L.take j) < 72057594037927936 := by
        have h1 := rdB_lt (L.take j)
        have h2 := Nat.pow_le_pow_right (show 0 < 256 by omega) (show (L.take j).length ≤ 7 by rw [List.length_take]; omega)
        omega
      have hb2 : (L.getD j 0).toNat < 256 := (L.getD j 0).toNat_lt
      have HOR := (show Hid _ from or256 (rdB (L.take j)) (L.getD j 0).toNat hbd hb2)
      have HT : Hid (rdB (L.take (j + 1)) = rdB (L.take j) * 256 + (L.getD j 0).toNat) := hT
      clear hT hbd hb2
      revert d0 HOR HT
      generalize L.getD j 0 = b
      generalize rdB (L.take j) = x
      intro d0 HOR HT
      go_wp2_with fail
      refine ⟨⟨j + 1, by omega, by go_num, ?_, trivial⟩, by simp [RowKit.intOf]; omega⟩
      rw [HT.out, ← HOR.out]
    · have hjm : j = m := by omega
      go_wp2_with fail
      go_ret
      refine ⟨?_, HEND.out⟩
      rw [HTL.out, hjm, ← HLL.out, List.take_length]
      rfl
theorem rnumber_any (s : ByteArray) (n B : Nat) (w : World) (h : RrP w B s) (hn : n ≤ 2) (hs : s.size ≤ 140737488355328) :
    Calls Tryz.prog 40 #[.pointer (some ⟨B, 0, none⟩), .int .i64 n] w fun e w' => e = .returned (.int .i64 (rdB (s.data.toList.take n))) ∧ RrP w' B (drS n s) ∧ RrF B w w' := by
  have cP := rpattern_any s n B w h (by omega) hs
  obtain ⟨x, hx⟩ : ∃ x, x = rdB (s.data.toList.take n) := ⟨_, rfl⟩
  have hxl : x < 65536 := by
    rw [hx]
    have h1 := rdB_lt (s.data.toList.take n)
    have h2 := Nat.pow_le_pow_right (show 0 < 256 by omega) (show (s.data.toList.take n).length ≤ 2 by rw [List.length_take]; omega)
    omega
  have e1 : IntKind.i64.wrap (x : Int) = x := by rw [IntKind.wrap_i64]; omega
  rw [← hx] at cP ⊢
  clear hx
  go_enter Tryz.func40, Tryz.ntmps40
  go_wp2_with fail
  refine cP.mono ?_
  rintro e w1 ⟨rfl, hP1, hF1⟩
  have HE : Hid _ := And.intro hP1 hF1
  clear hP1 hF1
  go_wp2
  go_ret
  exact ⟨rfl, HE.out⟩
theorem run_ffrom (n : Nat) (w : World) : (callFunc 41 #[.int .u64 n]).run Tryz.prog w = .ok (.value (.float .f64 n)) w := by
  rw [run_callFunc_extern (e := Extern.MathFloatBits.float64frombits) Tryz.func41 (by kernel_rfl) (by kernel_rfl) (by kernel_rfl) (by kernel_rfl)]
  rfl
/-- the options that are read -/
def roK (l : List UInt8) : Nat := rdB (l.take 1)
def roW (l : List UInt8) : Nat := rdB ((l.drop 1).take 1)
def roS (l : List UInt8) : Nat := rdB ((l.drop 2).take 8)
theorem roS_lt (l : List UInt8) : roS l < 18446744073709551616 := by
  have h1 := rdB_lt ((l.drop 2).take 8)
  have h2 := Nat.pow_le_pow_right (show 0 < 256 by omega) (show ((l.drop 2).take 8).length ≤ 8 by rw [List.length_take]; omega)
  unfold roS
  omega
end Go.Proofs.YtilcmkiihefkkabGreatDoor.Mn
end
