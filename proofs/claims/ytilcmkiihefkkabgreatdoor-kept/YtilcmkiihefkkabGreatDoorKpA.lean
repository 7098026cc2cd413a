import Derived.Deep.CutBlock
import Derived.Deep.DeepCutAuto
import Derived.Test.YtilcmkiihefkkabGreatDoorJk31
import Derived.Test.YtilcmkiihefkkabGreatDoorJk47
import Derived.Test.YtilcmkiihefkkabGreatDoorKdC
section
set_option linter.unusedVariables false
set_option linter.unusedSimpArgs false
set_option maxRecDepth 100000
namespace Go.Proofs.YtilcmkiihefkkabGreatDoor.Mn
open Go.RowKit Go.Shelf Go.Lib
attribute [local go_sem] run_store_flt
theorem cleaned (s : ByteArray) (M : Nat) : good ⟨(_root_.Go.Proofs.YtilcmkiihefkkabGreatDoor.cleanL s.data.toList M).toArray⟩ ∧ (⟨(_root_.Go.Proofs.YtilcmkiihefkkabGreatDoor.cleanL s.data.toList M).toArray⟩ : ByteArray).size ≤ M := by
  constructor
  · refine list_good ?_
    intro c hc
    unfold _root_.Go.Proofs.YtilcmkiihefkkabGreatDoor.cleanL at hc
    obtain ⟨x, _, rfl⟩ := List.mem_map.1 hc
    exact _root_.Go.Proofs.YtilcmkiihefkkabGreatDoor.cleanB_good x
  · show (_root_.Go.Proofs.YtilcmkiihefkkabGreatDoor.cleanL s.data.toList M).toArray.size ≤ M
    rw [List.size_toArray, _root_.Go.Proofs.YtilcmkiihefkkabGreatDoor.cleanL_length]
    omega
theorem new_at (T : ByteArray) (R : List S2) (k ww sc : Nat) (hSz : T.size ≤ 140737488351232) (hNew : newR T k ww sc = (0, 0)) (hPar : parseR T = (R, 0, 0)) (W : World) :
    Calls Tryz.prog 6 #[.string T, .agg #[.int .i64 k, .int .i64 ww, .float .f64 sc]] W fun e w' => ∃ X, e = .returned (.tuple #[.pointer (some ⟨X, 0, none⟩), .int .i64 0, .int .i64 0]) ∧ Below W.heap.size W w' ∧ IxP w' W.heap.size X R k ww sc := by
  have h0 := New_any T k ww sc W hSz
  refine h0.mono ?_
  rintro e w' ⟨v, rfl, hb, _, h⟩
  rw [hNew] at h ⊢
  obtain ⟨X, rfl, hI, _⟩ := h rfl
  rw [hPar] at hI
  simp only [Int.toNat_natCast] at hI
  exact ⟨X, rfl, hb, hI⟩
theorem of2_size (a b : ByteArray) (h1 : a.size ≤ 1000) (h2 : b.size ≤ 1000) : (⟨(of2 a b).toArray⟩ : ByteArray).size ≤ 140737488351232 := by
  have e1 : a.data.toList.length = a.size := Array.length_toList
  have e2 : b.data.toList.length = b.size := Array.length_toList
  have e3 : (⟨(of2 a b).toArray⟩ : ByteArray).size = (of2 a b).length := by show (of2 a b).toArray.size = _; simp
  rw [e3]
  simp only [of2, ofL, List.length_cons, List.length_append]
  omega
theorem opt_q (k W r : Nat) (sc : Nat) (hs : sc = fq (r : Int)) (h1 : 1 ≤ k) (h2 : k ≤ 12) (h3 : 1 ≤ W) (h4 : W ≤ 20) (h5 : r ≤ 1000) : optB k W sc = true := by
  have p53 : (1048576 : Nat) ≤ 2 ^ 53 := by decide
  have e1 : FloatKind.f64.format.order sc 0 = some (compare (r : Int) 0) := by rw [hs, ← fq0]; exact order_fq _ _ (by omega) (by omega)
  have e2 : FloatKind.f64.format.order sc 4652007308841189376 = some (compare (r : Int) 4000) := by
    rw [hs, show (4652007308841189376 : Nat) = fq 4000 by decide +kernel]; exact order_fq _ _ (by omega) (by omega)
  unfold optB fge fle
  rw [e1, e2]
  have x1 : geO (some (compare (r : Int) 0)) = true := by
    simp only [compare, compareOfLessAndEq]
    rw [if_neg (by omega)]
    split <;> rfl
  have x2 : leO (some (compare (r : Int) 4000)) = true := by
    simp only [compare, compareOfLessAndEq]
    rw [if_pos (by omega)]; rfl
  rw [x1, x2]
  simp
  omega
theorem fq_64 : ∀ r : Fin 100, fq (r.val : Int) < 18446744073709551616 := by decide +kernel
theorem fq_16 : fq 16 = 4616189618054758400 := by decide +kernel
def TrP (w : World) (e : Ending) (w' : World) : Prop := e = .returned (.bool true) ∧ Below w.heap.size w w'
set_option maxHeartbeats 16000000 in
theorem kept_any (a b c : ByteArray) (k0 w0 : Int) (sc0 : Nat) (hash : Int) (bs : ByteArray) (w : World) (ha : a.size ≤ 140737488351232) (hb : b.size ≤ 140737488351232) (hc : c.size ≤ 140737488351232) (hbs : bs.size ≤ 140737488351232)
    (hk0 : -9223372036854775808 ≤ k0 ∧ k0 ≤ 9223372036854775807) (hw0 : -9223372036854775808 ≤ w0 ∧ w0 ≤ 9223372036854775807) (hat : -9223372036854775808 ≤ hash ∧ hash ≤ 9223372036854775807)
    (htab : Lib.TabBelow Tryz.prog w.heap.size w "internal/strconv.uint64pow10" .u64 Lib.pow10Tab) (hLt : LtP w) :
    Calls Tryz.prog 3 #[.string a, .string b, .agg #[.int .i64 k0, .int .i64 w0, .float .f64 sc0], .string c, .int .i64 hash, .string bs] w (TrP w) := by
  have cA := fun W => _root_.Go.Proofs.YtilcmkiihefkkabGreatDoor.clean_any a 200 (by omega) W ha
  have cB := fun W => _root_.Go.Proofs.YtilcmkiihefkkabGreatDoor.clean_any b 200 (by omega) W hb
  have cC := fun W => _root_.Go.Proofs.YtilcmkiihefkkabGreatDoor.clean_any c 200 (by omega) W hc
  obtain ⟨g1, s1⟩ := cleaned a 200
  obtain ⟨g2, s2⟩ := cleaned b 200
  obtain ⟨g3, s3⟩ := cleaned c 200
  generalize (⟨(_root_.Go.Proofs.YtilcmkiihefkkabGreatDoor.cleanL a.data.toList 200).toArray⟩ : ByteArray) = ra at cA g1 s1
  generalize (⟨(_root_.Go.Proofs.YtilcmkiihefkkabGreatDoor.cleanL b.data.toList 200).toArray⟩ : ByteArray) = rb at cB g2 s2
  generalize (⟨(_root_.Go.Proofs.YtilcmkiihefkkabGreatDoor.cleanL c.data.toList 200).toArray⟩ : ByteArray) = rc at cC g3 s3
  simp only [show ((200 : Nat) : Int) = 200 from rfl] at cA cB cC
  have cK := fun W => _root_.Go.Proofs.YtilcmkiihefkkabGreatDoor.lpick_any k0 12 W hk0 (by omega) (by omega)
  have cW := fun W => _root_.Go.Proofs.YtilcmkiihefkkabGreatDoor.lpick_any w0 20 W hw0 (by omega) (by omega)
  have cT := fun W => _root_.Go.Proofs.YtilcmkiihefkkabGreatDoor.lpick_any hash 100 W hat (by omega) (by omega)
  have HcA := (show Hid _ from cA)
  have HcB := (show Hid _ from cB)
  have HcC := (show Hid _ from cC)
  have HcK := (show Hid _ from cK)
  have HcW := (show Hid _ from cW)
  have HcT := (show Hid _ from cT)
  have HTAB : Hid (Lib.TabBelow Tryz.prog w.heap.size w "internal/strconv.uint64pow10" .u64 Lib.pow10Tab) := htab
  have HLT : Hid (LtP w) := hLt
  have G1 : Hid (good ra) := g1
  have G2 : Hid (good rb) := g2
  have G3 : Hid (good rc) := g3
  have HHA : Hid (okI hash) := WalkArith.wf_i64 hat
  clear cA cB cC cK cW cT htab hLt g1 g2 g3
  go_enter Tryz.func3, Tryz.ntmps3
  go_wp2_with fail
  refine (finds_any _ (tabOnM HTAB.out ((Below.refl _ w).alloc (Nat.le_refl _) _)) (HLT.out.below ((Below.refl _ w).alloc (Nat.le_refl _) _))).mono ?_
  rintro e w1 ⟨rfl, hb1⟩
  have hbx : Below w.heap.size w (w.alloc (Obj.cells #[.int .i64 k0, .int .i64 w0, .float .f64 sc0] 24)) := (Below.refl _ w).alloc (Nat.le_refl _) _
  have HB1 : Hid (Below w.heap.size w w1) := hbx.trans (hb1.mono (by simp))
  have h1o : w1.heap[w.heap.size]? = some (Obj.cells #[.int .i64 k0, .int .i64 w0, .float .f64 sc0] 24 (0, 0)) := (hb1.block _ (by simp)).trans (heap_alloc_new w _)
  clear hb1 hbx
  have hsz1 : w.heap.size < w1.heap.size := lt_of_block h1o
  have q0 := cell_at h1o (i := 0) rfl
  have q1 := cell_at h1o (i := 1) rfl
  have q2 := cell_at h1o (i := 2) rfl
  have qz : ∀ off, w1.frozen? ⟨w.heap.size, off, none⟩ = false := fun off => frozen_of_row _ _ _ _ _ h1o
  go_wp2_with fail
  refine (HcK.out _).mono ?_
  rintro e w' ⟨r1, rfl, hr1, hw'⟩
  obtain rfl := hw'.symm
  go_wp2_with fail
  refine (HcW.out _).mono ?_
  rintro e w' ⟨r2, rfl, hr2, hw'⟩
  obtain rfl := hw'.symm
  go_wp2_with fail
  refine (HcT.out _).mono ?_
  rintro e w' ⟨r3, rfl, hr3, hw'⟩
  obtain rfl := hw'.symm
  clear HcK HcW HcT hw'
  have p50 : (1048576 : Nat) ≤ 2 ^ 50 := by decide
  have f3 : floatOfInt .f64 (r3 : Int) = fq (4 * (r3 : Int)) := ofInt_fq r3 (by omega)
  have f4 : floatBits .quo .f64 (fq (4 * (r3 : Int))) 4616189618054758400 = some (fq (r3 : Int)) := by
    have := quo_fq (r3 : Int) 2 (by omega) (by omega)
    rw [show (4 * 2 ^ 2 : Int) = 16 from rfl, fq_16] at this
    exact this
  obtain ⟨sc, hsc⟩ : ∃ sc, sc = fq (r3 : Int) := ⟨_, rfl⟩
  rw [← hsc] at f4
  have f5 : ∀ W t, (binOp .quo t (.float .f64 (fq (4 * (r3 : Int)))) (.float .f64 4616189618054758400)).run Tryz.prog W = .ok (.float .f64 sc) W := fun W t => run_float_arith W .quo t .f64 _ _ _ f4
  have HSC : Hid (sc = fq (r3 : Int)) := hsc
  clear f4
  have H64 : Hid (sc < 18446744073709551616) := by rw [hsc]; exact fq_64 ⟨r3, by omega⟩
  clear hsc
  obtain ⟨k, hk⟩ : ∃ k : Nat, 1 + (r1 : Int) = k := ⟨1 + r1, by omega⟩
  obtain ⟨ww, hww⟩ : ∃ k : Nat, 1 + (r2 : Int) = k := ⟨1 + r2, by omega⟩
  have hk3 : 1 ≤ k ∧ k ≤ 12 := by omega
  have hw3 : 1 ≤ ww ∧ ww ≤ 20 := by omega
  go_upto_region 5 with fail
  obtain ⟨wS, hwS⟩ : ∃ W : World, W = ((w1.setCell ⟨w.heap.size, 0, none⟩ (.int .i64 k)).setCell ⟨w.heap.size, 1, none⟩ (.int .i64 ww)).setCell ⟨w.heap.size, 2, none⟩ (.float .f64 sc) := ⟨_, rfl⟩
  rw [← hwS]
  have U := ((Upd.of_setCell (i := 0) (.int .i64 k) h1o).setCell (i := 1) (.int .i64 ww)).setCell (i := 2) (.float .f64 sc)
  simp only [List.setIfInBounds_toArray, List.set_cons_zero, List.set_cons_succ] at U
  rw [← hwS] at U
  have hbS : Below w.heap.size w wS := HB1.out.trans (U.below (Nat.le_refl _))
  have HBS : Hid (Below w.heap.size w wS) := hbS
  have HS0 : Hid (wS.heap[w.heap.size]? = some (Obj.cells #[.int .i64 k, .int .i64 ww, .float .f64 sc] 24 (0, 0))) := U.here
  clear hwS U hbS q0 q1 q2 qz h1o HB1 hsz1 hk hww hr1 hr2 f3 f5
  obtain ⟨TA, hTA⟩ : ∃ T : ByteArray, T = ⟨(ofL 97 ra).toArray⟩ := ⟨_, rfl⟩
  obtain ⟨TB, hTB⟩ : ∃ T : ByteArray, T = ⟨(ofL 98 rb).toArray⟩ := ⟨_, rfl⟩
  have hText : TA ++ ⟨#[10]⟩ ++ TB = ⟨(of2 ra rb).toArray⟩ := by
    rw [hTA, hTB]
    apply ByteArray.ext
    simp [of2, ofL]
  have hPar : parseR (TA ++ ⟨#[10]⟩ ++ TB) = ([⟨⟨#[97]⟩, ra⟩, ⟨⟨#[98]⟩, rb⟩], 0, 0) := by rw [hText]; exact parse_of2 ra rb G1.out G2.out (by omega) (by omega)
  have hOpt : optB k ww sc = true := opt_q k ww r3 sc HSC.out (by omega) (by omega) (by omega) (by omega) (by omega)
  have hSum : sumN [(⟨⟨#[97]⟩, ra⟩ : S2), ⟨⟨#[98]⟩, rb⟩] 2 ≤ 4000 := by
    show 0 + ra.size + rb.size ≤ 4000
    omega
  have hRe : refsE [(⟨⟨#[97]⟩, ra⟩ : S2), ⟨⟨#[98]⟩, rb⟩] = 0 := by
    unfold refsE
    rw [if_neg (by have : ([(⟨⟨#[97]⟩, ra⟩ : S2), ⟨⟨#[98]⟩, rb⟩] : List S2).length = 2 := rfl; rw [this]; omega), if_neg (by simp)]
  have hNew : newR (TA ++ ⟨#[10]⟩ ++ TB) k ww sc = (0, 0) := by
    unfold newR
    rw [if_pos hOpt, hPar, if_pos rfl, hRe]
  have hSz : (TA ++ ⟨#[10]⟩ ++ TB).size ≤ 140737488351232 := by rw [hText]; exact of2_size ra rb (by omega) (by omega)
  obtain ⟨R, hR⟩ : ∃ R, R = [(⟨⟨#[97]⟩, ra⟩ : S2), ⟨⟨#[98]⟩, rb⟩] := ⟨_, rfl⟩
  have HN : Hid (∀ W : World, Calls Tryz.prog 6 #[.string (TA ++ ⟨#[10]⟩ ++ TB), .agg #[.int .i64 k, .int .i64 ww, .float .f64 sc]] W fun e w' => ∃ X, e = .returned (.tuple #[.pointer (some ⟨X, 0, none⟩), .int .i64 0, .int .i64 0]) ∧ Below W.heap.size W w' ∧ IxP w' W.heap.size X R k ww sc) := by
    rw [hR]
    exact fun W => new_at _ _ k ww sc hSz hNew hPar W
  have HRO : Hid (RefsOK R) := by
    have h := parse_refs (TA ++ ⟨#[10]⟩ ++ TB) (by rw [hPar]; exact hSum)
    rw [hPar] at h
    rw [hR]
    exact h
  have HKF : Hid (KpF k ww sc R) := by
    refine ⟨hk3.1, hk3.2, hw3.1, hw3.2, H64.out, by rw [hR]; show (2 : Nat) < 65536; omega, fun x hx => ?_, ?_, hOpt, by rw [hR]; exact hRe⟩
    · rw [hR] at hx
      simp at hx
      rcases hx with rfl | rfl
      · exact rq_one 97 ra G1.out (by omega) (parse_of 97 ra G1.out (by omega) (by decide) (by decide))
      · exact rq_one 98 rb G2.out (by omega) (parse_of 98 rb G2.out (by omega) (by decide) (by decide))
    · rw [hR]
      simp
  have HL20 : Hid (20 ≤ (headB k ww sc R).length) := by
    have h2 : (optB8 k ww sc).length = 10 := by unfold optB8; simp only [List.length_append, wrB_len]
    have h3 : (mark4 : List UInt8).length = 4 := rfl
    show _ ≤ _
    rw [hR]
    unfold headB refB
    simp only [List.flatMap_cons, List.flatMap_nil, List.length_append, List.append_nil, h2, h3, wrB_len]
    omega
  have HOA : Hid (∀ W : World, Calls Tryz.prog 7 #[.string ⟨#[97]⟩, .string ra] W fun e w' => e = .returned (.string TA) ∧ Below W.heap.size W w') := by
    intro W; rw [hTA]; exact of_any 97 ra W (by omega)
  have HOB : Hid (∀ W : World, Calls Tryz.prog 7 #[.string ⟨#[98]⟩, .string rb] W fun e w' => e = .returned (.string TB) ∧ Below W.heap.size W w') := by
    intro W; rw [hTB]; exact of_any 98 rb W (by omega)
  have hTAs : TA.size ≤ 1000 := by
    rw [hTA]
    have e1 : (⟨(ofL 97 ra).toArray⟩ : ByteArray).size = (ofL 97 ra).length := by show (ofL 97 ra).toArray.size = _; simp
    have e2 := ofL_len 97 ra
    omega
  have hTBs : TB.size ≤ 1000 := by
    rw [hTB]
    have e1 : (⟨(ofL 98 rb).toArray⟩ : ByteArray).size = (ofL 98 rb).length := by show (ofL 98 rb).toArray.size = _; simp
    have e2 := ofL_len 98 rb
    omega
  have t6 : ¬ 9223372036854775807 < TA.size + 1 := by omega
  have t11 : ¬ 9223372036854775807 < TA.size + 1 + TB.size := by omega
  clear hText hPar hOpt hSum hNew hTA hTB hTAs hTBs hSz hRe hR
  go_cut [14, 15] (fun xv ev wc => ∃ X base, xv = .pointer (some ⟨X, 0, none⟩) ∧ ev = .int .i64 0 ∧ Below wS.heap.size wS wc ∧ IxP wc base X R k ww sc)
  case first =>
    have gS : ∀ W1 : World, (∀ j, j < wS.heap.size → W1.heap[j]? = wS.heap[j]?) → W1.cell? ⟨w.heap.size, 0, none⟩ = some (.int .i64 k) ∧ W1.cell? ⟨w.heap.size, 1, none⟩ = some (.int .i64 ww) ∧ W1.cell? ⟨w.heap.size, 2, none⟩ = some (.float .f64 sc) := by
      intro W1 hW1
      have e2 := (hW1 w.heap.size (lt_of_block HS0.out)).trans HS0.out
      exact ⟨cell_at e2 rfl, cell_at e2 rfl, cell_at e2 rfl⟩
    refine wp_region_X 19 (fun W1 => W1.cell? ⟨w.heap.size, 0, none⟩ = some (.int .i64 k) ∧ W1.cell? ⟨w.heap.size, 1, none⟩ = some (.int .i64 ww) ∧ W1.cell? ⟨w.heap.size, 2, none⟩ = some (.float .f64 sc)) (by kernel_rfl) (gS _ (fun _ _ => rfl)) (fun hH => ?_)
    have hc : Below wS.heap.size wS wS.drew := ⟨rfl, rfl, rfl, Nat.le_refl _, fun _ _ => rfl⟩
    obtain ⟨V0, hV0⟩ : ∃ W : World, W = wS.drew := ⟨_, rfl⟩
    rw [← hV0] at hH hc ⊢
    clear hV0
    refine wpZ 0 hH ?_
    refine wpZ 6 hH ?_
    refine wpZ 10 hH ?_
    refine wpAnyX_two (i := 1) (j := 3) (by kernel_rfl) rfl rfl (by kernel_rfl) (by kernel_rfl) (fun K hK => ?_) (fun K hK => ?_)
    · go_simp
      go_at_call 8
      refine (HcA.out _).mono ?_
      rintro e w' ⟨rfl, hw'⟩
      obtain rfl := hw'.symm
      clear hw'
      refine hK.out _ _ hH ?_
      clear hK K
      try simp only [Act.put, zA0, zZ0, zS0]
      refine wpAnyX_two (i := 2) (j := 3) (by kernel_rfl) rfl rfl (by kernel_rfl) (by kernel_rfl) (fun K hK => ?_) (fun K hK => ?_)
      · go_simp
        go_at_call 7
        refine (HOA.out _).mono ?_
        rintro e V1 ⟨rfl, hb1⟩
        have hc : Below wS.heap.size wS V1 := hc.trans (hb1.mono hc.size)
        have hH := gS V1 hc.block
        refine hK.out _ _ hH ?_
        clear hK K hb1
        try simp only [Act.put, zA0, zZ0, zS0]
        refine wpAnyX_two (i := 3) (j := 7) (by kernel_rfl) rfl rfl (by kernel_rfl) (by kernel_rfl) (fun K hK => ?_) (fun K hK => ?_)
        · go_simp
          obtain ⟨V2, hV2⟩ : ∃ W : World, W = V1.alloc (Obj.cells #[.int .u8 10] 5) := ⟨_, rfl⟩
          rw [← hV2]
          obtain ⟨bq, hbq⟩ : ∃ b, b = V1.heap.size := ⟨_, rfl⟩
          rw [← hbq]
          have hq : V2.cell? ⟨bq, 0, none⟩ = some (.int .u8 10) := by rw [hV2, hbq]; exact cell_at (heap_alloc_new _ _) rfl
          have hc : Below wS.heap.size wS V2 := by rw [hV2]; exact hc.alloc hc.size _
          have hH := gS V2 hc.block
          refine hK.out _ _ hH ?_
          clear hK K hV2 hbq
          try simp only [Act.put, zA0, zZ0, zS0]
          refine wpAnyX_two (i := 4) (j := 7) (by kernel_rfl) rfl rfl (by kernel_rfl) (by kernel_rfl) (fun K hK => ?_) (fun K hK => ?_)
          · have hcv := _root_.Go.Proofs.YtilcmkiihefkkabGreatDoor.conv_one V2 bq 10 hq
            go_simp
            refine hK.out _ _ hH ?_
            clear hK K hcv hq
            try simp only [Act.put, zA0, zZ0, zS0]
            refine wpZ 5 hH ?_
            refine wpAnyX_step (i := 7) (by kernel_rfl) rfl (by kernel_rfl) (fun K hK => ?_)
            go_simp
            go_at_call 8
            refine (HcB.out _).mono ?_
            rintro e w' ⟨rfl, hw'⟩
            obtain rfl := hw'.symm
            clear hw'
            refine hK.out _ _ hH ?_
            clear hK K
            try simp only [Act.put, zA0, zZ0, zS0]
            refine wpAnyX_step (i := 8) (by kernel_rfl) rfl (by kernel_rfl) (fun K hK => ?_)
            go_simp
            go_at_call 7
            refine (HOB.out _).mono ?_
            rintro e V3 ⟨rfl, hb1⟩
            have hc : Below wS.heap.size wS V3 := hc.trans (hb1.mono hc.size)
            have hH := gS V3 hc.block
            refine hK.out _ _ hH ?_
            clear hK K hb1
            try simp only [Act.put, zA0, zZ0, zS0]
            refine wpZ 9 hH ?_
            refine wpAnyX_step (i := 11) (by kernel_rfl) rfl (by kernel_rfl) (fun K hK => ?_)
            go_simp
            go_at_call 6
            refine (HN.out _).mono ?_
            rintro e VN ⟨X, rfl, hbN, hI⟩
            have hc : Below wS.heap.size wS VN := hc.trans (hbN.mono hc.size)
            have hH := gS VN hc.block
            refine hK.out _ _ hH ?_
            clear hK K hbN
            try simp only [Act.put, zA0, zZ0, zS0]
            refine wpZ 12 hH ?_
            refine wpZ 13 hH ?_
            refine wpZ 14 hH ?_
            refine wpZ 15 hH ?_
            refine wpZ 16 hH ?_
            refine wpZ 17 hH ?_
            refine wpZ 18 hH ?_
            refine wpAnyX_done (by kernel_rfl) ?_
            go_wp2_with fail
            go_meet
            case rel => exact ⟨X, _, rfl, rfl, hc, hI⟩
          · go_simp
            go_at_call 8
            refine (HcB.out _).mono ?_
            rintro e w' ⟨rfl, hw'⟩
            obtain rfl := hw'.symm
            clear hw'
            refine hK.out _ _ hH ?_
            clear hK K
            try simp only [Act.put, zA0, zZ0, zS0]
            refine wpAnyX_two (i := 4) (j := 8) (by kernel_rfl) rfl rfl (by kernel_rfl) (by kernel_rfl) (fun K hK => ?_) (fun K hK => ?_)
            · have hcv := _root_.Go.Proofs.YtilcmkiihefkkabGreatDoor.conv_one V2 bq 10 hq
              go_simp
              refine hK.out _ _ hH ?_
              clear hK K hcv hq
              try simp only [Act.put, zA0, zZ0, zS0]
              refine wpZ 5 hH ?_
              refine wpAnyX_step (i := 8) (by kernel_rfl) rfl (by kernel_rfl) (fun K hK => ?_)
              go_simp
              go_at_call 7
              refine (HOB.out _).mono ?_
              rintro e V4 ⟨rfl, hb1⟩
              have hc : Below wS.heap.size wS V4 := hc.trans (hb1.mono hc.size)
              have hH := gS V4 hc.block
              refine hK.out _ _ hH ?_
              clear hK K hb1
              try simp only [Act.put, zA0, zZ0, zS0]
              refine wpZ 9 hH ?_
              refine wpAnyX_step (i := 11) (by kernel_rfl) rfl (by kernel_rfl) (fun K hK => ?_)
              go_simp
              go_at_call 6
              refine (HN.out _).mono ?_
              rintro e VN ⟨X, rfl, hbN, hI⟩
              have hc : Below wS.heap.size wS VN := hc.trans (hbN.mono hc.size)
              have hH := gS VN hc.block
              refine hK.out _ _ hH ?_
              clear hK K hbN
              try simp only [Act.put, zA0, zZ0, zS0]
              refine wpZ 12 hH ?_
              refine wpZ 13 hH ?_
              refine wpZ 14 hH ?_
              refine wpZ 15 hH ?_
              refine wpZ 16 hH ?_
              refine wpZ 17 hH ?_
              refine wpZ 18 hH ?_
              refine wpAnyX_done (by kernel_rfl) ?_
              go_wp2_with fail
              go_meet
              case rel => exact ⟨X, _, rfl, rfl, hc, hI⟩
            · go_simp
              go_at_call 7
              refine (HOB.out _).mono ?_
              rintro e V5 ⟨rfl, hb1⟩
              have hq : V5.cell? ⟨bq, 0, none⟩ = some (.int .u8 10) := (World.cell?_of_block (hb1.block _ (block_lt_of_cell hq))).trans hq
              have hc : Below wS.heap.size wS V5 := hc.trans (hb1.mono hc.size)
              have hH := gS V5 hc.block
              refine hK.out _ _ hH ?_
              clear hK K hb1
              try simp only [Act.put, zA0, zZ0, zS0]
              refine wpAnyX_step (i := 4) (by kernel_rfl) rfl (by kernel_rfl) (fun K hK => ?_)
              have hcv := _root_.Go.Proofs.YtilcmkiihefkkabGreatDoor.conv_one V5 bq 10 hq
              go_simp
              refine hK.out _ _ hH ?_
              clear hK K hcv hq
              try simp only [Act.put, zA0, zZ0, zS0]
              refine wpZ 5 hH ?_
              refine wpZ 9 hH ?_
              refine wpAnyX_step (i := 11) (by kernel_rfl) rfl (by kernel_rfl) (fun K hK => ?_)
              go_simp
              go_at_call 6
              refine (HN.out _).mono ?_
              rintro e VN ⟨X, rfl, hbN, hI⟩
              have hc : Below wS.heap.size wS VN := hc.trans (hbN.mono hc.size)
              have hH := gS VN hc.block
              refine hK.out _ _ hH ?_
              clear hK K hbN
              try simp only [Act.put, zA0, zZ0, zS0]
              refine wpZ 12 hH ?_
              refine wpZ 13 hH ?_
              refine wpZ 14 hH ?_
              refine wpZ 15 hH ?_
              refine wpZ 16 hH ?_
              refine wpZ 17 hH ?_
              refine wpZ 18 hH ?_
              refine wpAnyX_done (by kernel_rfl) ?_
              go_wp2_with fail
              go_meet
              case rel => exact ⟨X, _, rfl, rfl, hc, hI⟩
        · go_simp
          go_at_call 8
          refine (HcB.out _).mono ?_
          rintro e w' ⟨rfl, hw'⟩
          obtain rfl := hw'.symm
          clear hw'
          refine hK.out _ _ hH ?_
          clear hK K
          try simp only [Act.put, zA0, zZ0, zS0]
          refine wpAnyX_two (i := 3) (j := 8) (by kernel_rfl) rfl rfl (by kernel_rfl) (by kernel_rfl) (fun K hK => ?_) (fun K hK => ?_)
          · go_simp
            obtain ⟨V6, hV2⟩ : ∃ W : World, W = V1.alloc (Obj.cells #[.int .u8 10] 5) := ⟨_, rfl⟩
            rw [← hV2]
            obtain ⟨bq, hbq⟩ : ∃ b, b = V1.heap.size := ⟨_, rfl⟩
            rw [← hbq]
            have hq : V6.cell? ⟨bq, 0, none⟩ = some (.int .u8 10) := by rw [hV2, hbq]; exact cell_at (heap_alloc_new _ _) rfl
            have hc : Below wS.heap.size wS V6 := by rw [hV2]; exact hc.alloc hc.size _
            have hH := gS V6 hc.block
            refine hK.out _ _ hH ?_
            clear hK K hV2 hbq
            try simp only [Act.put, zA0, zZ0, zS0]
            refine wpAnyX_two (i := 4) (j := 8) (by kernel_rfl) rfl rfl (by kernel_rfl) (by kernel_rfl) (fun K hK => ?_) (fun K hK => ?_)
            · have hcv := _root_.Go.Proofs.YtilcmkiihefkkabGreatDoor.conv_one V6 bq 10 hq
              go_simp
              refine hK.out _ _ hH ?_
              clear hK K hcv hq
              try simp only [Act.put, zA0, zZ0, zS0]
              refine wpZ 5 hH ?_
              refine wpAnyX_step (i := 8) (by kernel_rfl) rfl (by kernel_rfl) (fun K hK => ?_)
              go_simp
              go_at_call 7
              refine (HOB.out _).mono ?_
              rintro e V7 ⟨rfl, hb1⟩
              have hc : Below wS.heap.size wS V7 := hc.trans (hb1.mono hc.size)
              have hH := gS V7 hc.block
              refine hK.out _ _ hH ?_
              clear hK K hb1
              try simp only [Act.put, zA0, zZ0, zS0]
              refine wpZ 9 hH ?_
              refine wpAnyX_step (i := 11) (by kernel_rfl) rfl (by kernel_rfl) (fun K hK => ?_)
              go_simp
              go_at_call 6
              refine (HN.out _).mono ?_
              rintro e VN ⟨X, rfl, hbN, hI⟩
              have hc : Below wS.heap.size wS VN := hc.trans (hbN.mono hc.size)
              have hH := gS VN hc.block
              refine hK.out _ _ hH ?_
              clear hK K hbN
              try simp only [Act.put, zA0, zZ0, zS0]
              refine wpZ 12 hH ?_
              refine wpZ 13 hH ?_
              refine wpZ 14 hH ?_
              refine wpZ 15 hH ?_
              refine wpZ 16 hH ?_
              refine wpZ 17 hH ?_
              refine wpZ 18 hH ?_
              refine wpAnyX_done (by kernel_rfl) ?_
              go_wp2_with fail
              go_meet
              case rel => exact ⟨X, _, rfl, rfl, hc, hI⟩
            · go_simp
              go_at_call 7
              refine (HOB.out _).mono ?_
              rintro e V8 ⟨rfl, hb1⟩
              have hq : V8.cell? ⟨bq, 0, none⟩ = some (.int .u8 10) := (World.cell?_of_block (hb1.block _ (block_lt_of_cell hq))).trans hq
              have hc : Below wS.heap.size wS V8 := hc.trans (hb1.mono hc.size)
              have hH := gS V8 hc.block
              refine hK.out _ _ hH ?_
              clear hK K hb1
              try simp only [Act.put, zA0, zZ0, zS0]
              refine wpAnyX_step (i := 4) (by kernel_rfl) rfl (by kernel_rfl) (fun K hK => ?_)
              have hcv := _root_.Go.Proofs.YtilcmkiihefkkabGreatDoor.conv_one V8 bq 10 hq
              go_simp
              refine hK.out _ _ hH ?_
              clear hK K hcv hq
              try simp only [Act.put, zA0, zZ0, zS0]
              refine wpZ 5 hH ?_
              refine wpZ 9 hH ?_
              refine wpAnyX_step (i := 11) (by kernel_rfl) rfl (by kernel_rfl) (fun K hK => ?_)
              go_simp
              go_at_call 6
              refine (HN.out _).mono ?_
              rintro e VN ⟨X, rfl, hbN, hI⟩
              have hc : Below wS.heap.size wS VN := hc.trans (hbN.mono hc.size)
              have hH := gS VN hc.block
              refine hK.out _ _ hH ?_
              clear hK K hbN
              try simp only [Act.put, zA0, zZ0, zS0]
              refine wpZ 12 hH ?_
              refine wpZ 13 hH ?_
              refine wpZ 14 hH ?_
              refine wpZ 15 hH ?_
              refine wpZ 16 hH ?_
              refine wpZ 17 hH ?_
              refine wpZ 18 hH ?_
              refine wpAnyX_done (by kernel_rfl) ?_
              go_wp2_with fail
              go_meet
              case rel => exact ⟨X, _, rfl, rfl, hc, hI⟩
          · go_simp
            go_at_call 7
            refine (HOB.out _).mono ?_
            rintro e V9 ⟨rfl, hb1⟩
            have hc : Below wS.heap.size wS V9 := hc.trans (hb1.mono hc.size)
            have hH := gS V9 hc.block
            refine hK.out _ _ hH ?_
            clear hK K hb1
            try simp only [Act.put, zA0, zZ0, zS0]
            refine wpAnyX_step (i := 3) (by kernel_rfl) rfl (by kernel_rfl) (fun K hK => ?_)
            go_simp
            obtain ⟨V10, hV2⟩ : ∃ W : World, W = V9.alloc (Obj.cells #[.int .u8 10] 5) := ⟨_, rfl⟩
            rw [← hV2]
            obtain ⟨bq, hbq⟩ : ∃ b, b = V9.heap.size := ⟨_, rfl⟩
            rw [← hbq]
            have hq : V10.cell? ⟨bq, 0, none⟩ = some (.int .u8 10) := by rw [hV2, hbq]; exact cell_at (heap_alloc_new _ _) rfl
            have hc : Below wS.heap.size wS V10 := by rw [hV2]; exact hc.alloc hc.size _
            have hH := gS V10 hc.block
            refine hK.out _ _ hH ?_
            clear hK K hV2 hbq
            try simp only [Act.put, zA0, zZ0, zS0]
            refine wpAnyX_step (i := 4) (by kernel_rfl) rfl (by kernel_rfl) (fun K hK => ?_)
            have hcv := _root_.Go.Proofs.YtilcmkiihefkkabGreatDoor.conv_one V10 bq 10 hq
            go_simp
            refine hK.out _ _ hH ?_
            clear hK K hcv hq
            try simp only [Act.put, zA0, zZ0, zS0]
            refine wpZ 5 hH ?_
            refine wpZ 9 hH ?_
            refine wpAnyX_step (i := 11) (by kernel_rfl) rfl (by kernel_rfl) (fun K hK => ?_)
            go_simp
            go_at_call 6
            refine (HN.out _).mono ?_
            rintro e VN ⟨X, rfl, hbN, hI⟩
            have hc : Below wS.heap.size wS VN := hc.trans (hbN.mono hc.size)
            have hH := gS VN hc.block
            refine hK.out _ _ hH ?_
            clear hK K hbN
            try simp only [Act.put, zA0, zZ0, zS0]
            refine wpZ 12 hH ?_
            refine wpZ 13 hH ?_
            refine wpZ 14 hH ?_
            refine wpZ 15 hH ?_
            refine wpZ 16 hH ?_
            refine wpZ 17 hH ?_
            refine wpZ 18 hH ?_
            refine wpAnyX_done (by kernel_rfl) ?_
            go_wp2_with fail
            go_meet
            case rel => exact ⟨X, _, rfl, rfl, hc, hI⟩
      · go_simp
        obtain ⟨V11, hV2⟩ : ∃ W : World, W = V0.alloc (Obj.cells #[.int .u8 10] 5) := ⟨_, rfl⟩
        rw [← hV2]
        obtain ⟨bq, hbq⟩ : ∃ b, b = V0.heap.size := ⟨_, rfl⟩
        rw [← hbq]
        have hq : V11.cell? ⟨bq, 0, none⟩ = some (.int .u8 10) := by rw [hV2, hbq]; exact cell_at (heap_alloc_new _ _) rfl
        have hc : Below wS.heap.size wS V11 := by rw [hV2]; exact hc.alloc hc.size _
        have hH := gS V11 hc.block
        refine hK.out _ _ hH ?_
        clear hK K hV2 hbq
        try simp only [Act.put, zA0, zZ0, zS0]
        refine wpAnyX_two (i := 2) (j := 4) (by kernel_rfl) rfl rfl (by kernel_rfl) (by kernel_rfl) (fun K hK => ?_) (fun K hK => ?_)
        · go_simp
          go_at_call 7
          refine (HOA.out _).mono ?_
          rintro e V12 ⟨rfl, hb1⟩
          have hq : V12.cell? ⟨bq, 0, none⟩ = some (.int .u8 10) := (World.cell?_of_block (hb1.block _ (block_lt_of_cell hq))).trans hq
          have hc : Below wS.heap.size wS V12 := hc.trans (hb1.mono hc.size)
          have hH := gS V12 hc.block
          refine hK.out _ _ hH ?_
          clear hK K hb1
          try simp only [Act.put, zA0, zZ0, zS0]
          refine wpAnyX_two (i := 4) (j := 7) (by kernel_rfl) rfl rfl (by kernel_rfl) (by kernel_rfl) (fun K hK => ?_) (fun K hK => ?_)
          · have hcv := _root_.Go.Proofs.YtilcmkiihefkkabGreatDoor.conv_one V12 bq 10 hq
            go_simp
            refine hK.out _ _ hH ?_
            clear hK K hcv hq
            try simp only [Act.put, zA0, zZ0, zS0]
            refine wpZ 5 hH ?_
            refine wpAnyX_step (i := 7) (by kernel_rfl) rfl (by kernel_rfl) (fun K hK => ?_)
            go_simp
            go_at_call 8
            refine (HcB.out _).mono ?_
            rintro e w' ⟨rfl, hw'⟩
            obtain rfl := hw'.symm
            clear hw'
            refine hK.out _ _ hH ?_
            clear hK K
            try simp only [Act.put, zA0, zZ0, zS0]
            refine wpAnyX_step (i := 8) (by kernel_rfl) rfl (by kernel_rfl) (fun K hK => ?_)
            go_simp
            go_at_call 7
            refine (HOB.out _).mono ?_
            rintro e V13 ⟨rfl, hb1⟩
            have hc : Below wS.heap.size wS V13 := hc.trans (hb1.mono hc.size)
            have hH := gS V13 hc.block
            refine hK.out _ _ hH ?_
            clear hK K hb1
            try simp only [Act.put, zA0, zZ0, zS0]
            refine wpZ 9 hH ?_
            refine wpAnyX_step (i := 11) (by kernel_rfl) rfl (by kernel_rfl) (fun K hK => ?_)
            go_simp
            go_at_call 6
            refine (HN.out _).mono ?_
            rintro e VN ⟨X, rfl, hbN, hI⟩
            have hc : Below wS.heap.size wS VN := hc.trans (hbN.mono hc.size)
            have hH := gS VN hc.block
            refine hK.out _ _ hH ?_
            clear hK K hbN
            try simp only [Act.put, zA0, zZ0, zS0]
            refine wpZ 12 hH ?_
            refine wpZ 13 hH ?_
            refine wpZ 14 hH ?_
            refine wpZ 15 hH ?_
            refine wpZ 16 hH ?_
            refine wpZ 17 hH ?_
            refine wpZ 18 hH ?_
            refine wpAnyX_done (by kernel_rfl) ?_
            go_wp2_with fail
            go_meet
            case rel => exact ⟨X, _, rfl, rfl, hc, hI⟩
          · go_simp
            go_at_call 8
            refine (HcB.out _).mono ?_
            rintro e w' ⟨rfl, hw'⟩
            obtain rfl := hw'.symm
            clear hw'
            refine hK.out _ _ hH ?_
            clear hK K
            try simp only [Act.put, zA0, zZ0, zS0]
            refine wpAnyX_two (i := 4) (j := 8) (by kernel_rfl) rfl rfl (by kernel_rfl) (by kernel_rfl) (fun K hK => ?_) (fun K hK => ?_)
            · have hcv := _root_.Go.Proofs.YtilcmkiihefkkabGreatDoor.conv_one V12 bq 10 hq
              go_simp
              refine hK.out _ _ hH ?_
              clear hK K hcv hq
              try simp only [Act.put, zA0, zZ0, zS0]
              refine wpZ 5 hH ?_
              refine wpAnyX_step (i := 8) (by kernel_rfl) rfl (by kernel_rfl) (fun K hK => ?_)
              go_simp
              go_at_call 7
              refine (HOB.out _).mono ?_
              rintro e V14 ⟨rfl, hb1⟩
              have hc : Below wS.heap.size wS V14 := hc.trans (hb1.mono hc.size)
              have hH := gS V14 hc.block
              refine hK.out _ _ hH ?_
              clear hK K hb1
              try simp only [Act.put, zA0, zZ0, zS0]
              refine wpZ 9 hH ?_
              refine wpAnyX_step (i := 11) (by kernel_rfl) rfl (by kernel_rfl) (fun K hK => ?_)
              go_simp
              go_at_call 6
              refine (HN.out _).mono ?_
              rintro e VN ⟨X, rfl, hbN, hI⟩
              have hc : Below wS.heap.size wS VN := hc.trans (hbN.mono hc.size)
              have hH := gS VN hc.block
              refine hK.out _ _ hH ?_
              clear hK K hbN
              try simp only [Act.put, zA0, zZ0, zS0]
              refine wpZ 12 hH ?_
              refine wpZ 13 hH ?_
              refine wpZ 14 hH ?_
              refine wpZ 15 hH ?_
              refine wpZ 16 hH ?_
              refine wpZ 17 hH ?_
              refine wpZ 18 hH ?_
              refine wpAnyX_done (by kernel_rfl) ?_
              go_wp2_with fail
              go_meet
              case rel => exact ⟨X, _, rfl, rfl, hc, hI⟩
            · go_simp
              go_at_call 7
              refine (HOB.out _).mono ?_
              rintro e V15 ⟨rfl, hb1⟩
              have hq : V15.cell? ⟨bq, 0, none⟩ = some (.int .u8 10) := (World.cell?_of_block (hb1.block _ (block_lt_of_cell hq))).trans hq
              have hc : Below wS.heap.size wS V15 := hc.trans (hb1.mono hc.size)
              have hH := gS V15 hc.block
              refine hK.out _ _ hH ?_
              clear hK K hb1
              try simp only [Act.put, zA0, zZ0, zS0]
              refine wpAnyX_step (i := 4) (by kernel_rfl) rfl (by kernel_rfl) (fun K hK => ?_)
              have hcv := _root_.Go.Proofs.YtilcmkiihefkkabGreatDoor.conv_one V15 bq 10 hq
              go_simp
              refine hK.out _ _ hH ?_
              clear hK K hcv hq
              try simp only [Act.put, zA0, zZ0, zS0]
              refine wpZ 5 hH ?_
              refine wpZ 9 hH ?_
              refine wpAnyX_step (i := 11) (by kernel_rfl) rfl (by kernel_rfl) (fun K hK => ?_)
              go_simp
              go_at_call 6
              refine (HN.out _).mono ?_
              rintro e VN ⟨X, rfl, hbN, hI⟩
              have hc : Below wS.heap.size wS VN := hc.trans (hbN.mono hc.size)
              have hH := gS VN hc.block
              refine hK.out _ _ hH ?_
              clear hK K hbN
              try simp only [Act.put, zA0, zZ0, zS0]
              refine wpZ 12 hH ?_
              refine wpZ 13 hH ?_
              refine wpZ 14 hH ?_
              refine wpZ 15 hH ?_
              refine wpZ 16 hH ?_
              refine wpZ 17 hH ?_
              refine wpZ 18 hH ?_
              refine wpAnyX_done (by kernel_rfl) ?_
              go_wp2_with fail
              go_meet
              case rel => exact ⟨X, _, rfl, rfl, hc, hI⟩
        · have hcv := _root_.Go.Proofs.YtilcmkiihefkkabGreatDoor.conv_one V11 bq 10 hq
          go_simp
          refine hK.out _ _ hH ?_
          clear hK K hcv hq
          try simp only [Act.put, zA0, zZ0, zS0]
          refine wpAnyX_step (i := 2) (by kernel_rfl) rfl (by kernel_rfl) (fun K hK => ?_)
          go_simp
          go_at_call 7
          refine (HOA.out _).mono ?_
          rintro e V16 ⟨rfl, hb1⟩
          have hc : Below wS.heap.size wS V16 := hc.trans (hb1.mono hc.size)
          have hH := gS V16 hc.block
          refine hK.out _ _ hH ?_
          clear hK K hb1
          try simp only [Act.put, zA0, zZ0, zS0]
          refine wpZ 5 hH ?_
          refine wpAnyX_step (i := 7) (by kernel_rfl) rfl (by kernel_rfl) (fun K hK => ?_)
          go_simp
          go_at_call 8
          refine (HcB.out _).mono ?_
          rintro e w' ⟨rfl, hw'⟩
          obtain rfl := hw'.symm
          clear hw'
          refine hK.out _ _ hH ?_
          clear hK K
          try simp only [Act.put, zA0, zZ0, zS0]
          refine wpAnyX_step (i := 8) (by kernel_rfl) rfl (by kernel_rfl) (fun K hK => ?_)
          go_simp
          go_at_call 7
          refine (HOB.out _).mono ?_
          rintro e V17 ⟨rfl, hb1⟩
          have hc : Below wS.heap.size wS V17 := hc.trans (hb1.mono hc.size)
          have hH := gS V17 hc.block
          refine hK.out _ _ hH ?_
          clear hK K hb1
          try simp only [Act.put, zA0, zZ0, zS0]
          refine wpZ 9 hH ?_
          refine wpAnyX_step (i := 11) (by kernel_rfl) rfl (by kernel_rfl) (fun K hK => ?_)
          go_simp
          go_at_call 6
          refine (HN.out _).mono ?_
          rintro e VN ⟨X, rfl, hbN, hI⟩
          have hc : Below wS.heap.size wS VN := hc.trans (hbN.mono hc.size)
          have hH := gS VN hc.block
          refine hK.out _ _ hH ?_
          clear hK K hbN
          try simp only [Act.put, zA0, zZ0, zS0]
          refine wpZ 12 hH ?_
          refine wpZ 13 hH ?_
          refine wpZ 14 hH ?_
          refine wpZ 15 hH ?_
          refine wpZ 16 hH ?_
          refine wpZ 17 hH ?_
          refine wpZ 18 hH ?_
          refine wpAnyX_done (by kernel_rfl) ?_
          go_wp2_with fail
          go_meet
          case rel => exact ⟨X, _, rfl, rfl, hc, hI⟩
    · go_simp
      obtain ⟨V18, hV2⟩ : ∃ W : World, W = V0.alloc (Obj.cells #[.int .u8 10] 5) := ⟨_, rfl⟩
      rw [← hV2]
      obtain ⟨bq, hbq⟩ : ∃ b, b = V0.heap.size := ⟨_, rfl⟩
      rw [← hbq]
      have hq : V18.cell? ⟨bq, 0, none⟩ = some (.int .u8 10) := by rw [hV2, hbq]; exact cell_at (heap_alloc_new _ _) rfl
      have hc : Below wS.heap.size wS V18 := by rw [hV2]; exact hc.alloc hc.size _
      have hH := gS V18 hc.block
      refine hK.out _ _ hH ?_
      clear hK K hV2 hbq
      try simp only [Act.put, zA0, zZ0, zS0]
      refine wpAnyX_two (i := 1) (j := 4) (by kernel_rfl) rfl rfl (by kernel_rfl) (by kernel_rfl) (fun K hK => ?_) (fun K hK => ?_)
      · go_simp
        go_at_call 8
        refine (HcA.out _).mono ?_
        rintro e w' ⟨rfl, hw'⟩
        obtain rfl := hw'.symm
        clear hw'
        refine hK.out _ _ hH ?_
        clear hK K
        try simp only [Act.put, zA0, zZ0, zS0]
        refine wpAnyX_two (i := 2) (j := 4) (by kernel_rfl) rfl rfl (by kernel_rfl) (by kernel_rfl) (fun K hK => ?_) (fun K hK => ?_)
        · go_simp
          go_at_call 7
          refine (HOA.out _).mono ?_
          rintro e V19 ⟨rfl, hb1⟩
          have hq : V19.cell? ⟨bq, 0, none⟩ = some (.int .u8 10) := (World.cell?_of_block (hb1.block _ (block_lt_of_cell hq))).trans hq
          have hc : Below wS.heap.size wS V19 := hc.trans (hb1.mono hc.size)
          have hH := gS V19 hc.block
          refine hK.out _ _ hH ?_
          clear hK K hb1
          try simp only [Act.put, zA0, zZ0, zS0]
          refine wpAnyX_two (i := 4) (j := 7) (by kernel_rfl) rfl rfl (by kernel_rfl) (by kernel_rfl) (fun K hK => ?_) (fun K hK => ?_)
          · have hcv := _root_.Go.Proofs.YtilcmkiihefkkabGreatDoor.conv_one V19 bq 10 hq
            go_simp
            refine hK.out _ _ hH ?_
            clear hK K hcv hq
            try simp only [Act.put, zA0, zZ0, zS0]
            refine wpZ 5 hH ?_
            refine wpAnyX_step (i := 7) (by kernel_rfl) rfl (by kernel_rfl) (fun K hK => ?_)
            go_simp
            go_at_call 8
            refine (HcB.out _).mono ?_
            rintro e w' ⟨rfl, hw'⟩
            obtain rfl := hw'.symm
            clear hw'
            refine hK.out _ _ hH ?_
            clear hK K
            try simp only [Act.put, zA0, zZ0, zS0]
            refine wpAnyX_step (i := 8) (by kernel_rfl) rfl (by kernel_rfl) (fun K hK => ?_)
            go_simp
            go_at_call 7
            refine (HOB.out _).mono ?_
            rintro e V20 ⟨rfl, hb1⟩
            have hc : Below wS.heap.size wS V20 := hc.trans (hb1.mono hc.size)
            have hH := gS V20 hc.block
            refine hK.out _ _ hH ?_
            clear hK K hb1
            try simp only [Act.put, zA0, zZ0, zS0]
            refine wpZ 9 hH ?_
            refine wpAnyX_step (i := 11) (by kernel_rfl) rfl (by kernel_rfl) (fun K hK => ?_)
            go_simp
            go_at_call 6
            refine (HN.out _).mono ?_
            rintro e VN ⟨X, rfl, hbN, hI⟩
            have hc : Below wS.heap.size wS VN := hc.trans (hbN.mono hc.size)
            have hH := gS VN hc.block
            refine hK.out _ _ hH ?_
            clear hK K hbN
            try simp only [Act.put, zA0, zZ0, zS0]
            refine wpZ 12 hH ?_
            refine wpZ 13 hH ?_
            refine wpZ 14 hH ?_
            refine wpZ 15 hH ?_
            refine wpZ 16 hH ?_
            refine wpZ 17 hH ?_
            refine wpZ 18 hH ?_
            refine wpAnyX_done (by kernel_rfl) ?_
            go_wp2_with fail
            go_meet
            case rel => exact ⟨X, _, rfl, rfl, hc, hI⟩
          · go_simp
            go_at_call 8
            refine (HcB.out _).mono ?_
            rintro e w' ⟨rfl, hw'⟩
            obtain rfl := hw'.symm
            clear hw'
            refine hK.out _ _ hH ?_
            clear hK K
            try simp only [Act.put, zA0, zZ0, zS0]
            refine wpAnyX_two (i := 4) (j := 8) (by kernel_rfl) rfl rfl (by kernel_rfl) (by kernel_rfl) (fun K hK => ?_) (fun K hK => ?_)
            · have hcv := _root_.Go.Proofs.YtilcmkiihefkkabGreatDoor.conv_one V19 bq 10 hq
              go_simp
              refine hK.out _ _ hH ?_
              clear hK K hcv hq
              try simp only [Act.put, zA0, zZ0, zS0]
              refine wpZ 5 hH ?_
              refine wpAnyX_step (i := 8) (by kernel_rfl) rfl (by kernel_rfl) (fun K hK => ?_)
              go_simp
              go_at_call 7
              refine (HOB.out _).mono ?_
              rintro e V21 ⟨rfl, hb1⟩
              have hc : Below wS.heap.size wS V21 := hc.trans (hb1.mono hc.size)
              have hH := gS V21 hc.block
              refine hK.out _ _ hH ?_
              clear hK K hb1
              try simp only [Act.put, zA0, zZ0, zS0]
              refine wpZ 9 hH ?_
              refine wpAnyX_step (i := 11) (by kernel_rfl) rfl (by kernel_rfl) (fun K hK => ?_)
              go_simp
              go_at_call 6
              refine (HN.out _).mono ?_
              rintro e VN ⟨X, rfl, hbN, hI⟩
              have hc : Below wS.heap.size wS VN := hc.trans (hbN.mono hc.size)
              have hH := gS VN hc.block
              refine hK.out _ _ hH ?_
              clear hK K hbN
              try simp only [Act.put, zA0, zZ0, zS0]
              refine wpZ 12 hH ?_
              refine wpZ 13 hH ?_
              refine wpZ 14 hH ?_
              refine wpZ 15 hH ?_
              refine wpZ 16 hH ?_
              refine wpZ 17 hH ?_
              refine wpZ 18 hH ?_
              refine wpAnyX_done (by kernel_rfl) ?_
              go_wp2_with fail
              go_meet
              case rel => exact ⟨X, _, rfl, rfl, hc, hI⟩
            · go_simp
              go_at_call 7
              refine (HOB.out _).mono ?_
              rintro e V22 ⟨rfl, hb1⟩
              have hq : V22.cell? ⟨bq, 0, none⟩ = some (.int .u8 10) := (World.cell?_of_block (hb1.block _ (block_lt_of_cell hq))).trans hq
              have hc : Below wS.heap.size wS V22 := hc.trans (hb1.mono hc.size)
              have hH := gS V22 hc.block
              refine hK.out _ _ hH ?_
              clear hK K hb1
              try simp only [Act.put, zA0, zZ0, zS0]
              refine wpAnyX_step (i := 4) (by kernel_rfl) rfl (by kernel_rfl) (fun K hK => ?_)
              have hcv := _root_.Go.Proofs.YtilcmkiihefkkabGreatDoor.conv_one V22 bq 10 hq
              go_simp
              refine hK.out _ _ hH ?_
              clear hK K hcv hq
              try simp only [Act.put, zA0, zZ0, zS0]
              refine wpZ 5 hH ?_
              refine wpZ 9 hH ?_
              refine wpAnyX_step (i := 11) (by kernel_rfl) rfl (by kernel_rfl) (fun K hK => ?_)
              go_simp
              go_at_call 6
              refine (HN.out _).mono ?_
              rintro e VN ⟨X, rfl, hbN, hI⟩
              have hc : Below wS.heap.size wS VN := hc.trans (hbN.mono hc.size)
              have hH := gS VN hc.block
              refine hK.out _ _ hH ?_
              clear hK K hbN
              try simp only [Act.put, zA0, zZ0, zS0]
              refine wpZ 12 hH ?_
              refine wpZ 13 hH ?_
              refine wpZ 14 hH ?_
              refine wpZ 15 hH ?_
              refine wpZ 16 hH ?_
              refine wpZ 17 hH ?_
              refine wpZ 18 hH ?_
              refine wpAnyX_done (by kernel_rfl) ?_
              go_wp2_with fail
              go_meet
              case rel => exact ⟨X, _, rfl, rfl, hc, hI⟩
        · have hcv := _root_.Go.Proofs.YtilcmkiihefkkabGreatDoor.conv_one V18 bq 10 hq
          go_simp
          refine hK.out _ _ hH ?_
          clear hK K hcv hq
          try simp only [Act.put, zA0, zZ0, zS0]
          refine wpAnyX_step (i := 2) (by kernel_rfl) rfl (by kernel_rfl) (fun K hK => ?_)
          go_simp
          go_at_call 7
          refine (HOA.out _).mono ?_
          rintro e V23 ⟨rfl, hb1⟩
          have hc : Below wS.heap.size wS V23 := hc.trans (hb1.mono hc.size)
          have hH := gS V23 hc.block
          refine hK.out _ _ hH ?_
          clear hK K hb1
          try simp only [Act.put, zA0, zZ0, zS0]
          refine wpZ 5 hH ?_
          refine wpAnyX_step (i := 7) (by kernel_rfl) rfl (by kernel_rfl) (fun K hK => ?_)
          go_simp
          go_at_call 8
          refine (HcB.out _).mono ?_
          rintro e w' ⟨rfl, hw'⟩
          obtain rfl := hw'.symm
          clear hw'
          refine hK.out _ _ hH ?_
          clear hK K
          try simp only [Act.put, zA0, zZ0, zS0]
          refine wpAnyX_step (i := 8) (by kernel_rfl) rfl (by kernel_rfl) (fun K hK => ?_)
          go_simp
          go_at_call 7
          refine (HOB.out _).mono ?_
          rintro e V24 ⟨rfl, hb1⟩
          have hc : Below wS.heap.size wS V24 := hc.trans (hb1.mono hc.size)
          have hH := gS V24 hc.block
          refine hK.out _ _ hH ?_
          clear hK K hb1
          try simp only [Act.put, zA0, zZ0, zS0]
          refine wpZ 9 hH ?_
          refine wpAnyX_step (i := 11) (by kernel_rfl) rfl (by kernel_rfl) (fun K hK => ?_)
          go_simp
          go_at_call 6
          refine (HN.out _).mono ?_
          rintro e VN ⟨X, rfl, hbN, hI⟩
          have hc : Below wS.heap.size wS VN := hc.trans (hbN.mono hc.size)
          have hH := gS VN hc.block
          refine hK.out _ _ hH ?_
          clear hK K hbN
          try simp only [Act.put, zA0, zZ0, zS0]
          refine wpZ 12 hH ?_
          refine wpZ 13 hH ?_
          refine wpZ 14 hH ?_
          refine wpZ 15 hH ?_
          refine wpZ 16 hH ?_
          refine wpZ 17 hH ?_
          refine wpZ 18 hH ?_
          refine wpAnyX_done (by kernel_rfl) ?_
          go_wp2_with fail
          go_meet
          case rel => exact ⟨X, _, rfl, rfl, hc, hI⟩
      · have hcv := _root_.Go.Proofs.YtilcmkiihefkkabGreatDoor.conv_one V18 bq 10 hq
        go_simp
        refine hK.out _ _ hH ?_
        clear hK K hcv hq
        try simp only [Act.put, zA0, zZ0, zS0]
        refine wpAnyX_step (i := 1) (by kernel_rfl) rfl (by kernel_rfl) (fun K hK => ?_)
        go_simp
        go_at_call 8
        refine (HcA.out _).mono ?_
        rintro e w' ⟨rfl, hw'⟩
        obtain rfl := hw'.symm
        clear hw'
        refine hK.out _ _ hH ?_
        clear hK K
        try simp only [Act.put, zA0, zZ0, zS0]
        refine wpAnyX_step (i := 2) (by kernel_rfl) rfl (by kernel_rfl) (fun K hK => ?_)
        go_simp
        go_at_call 7
        refine (HOA.out _).mono ?_
        rintro e V25 ⟨rfl, hb1⟩
        have hc : Below wS.heap.size wS V25 := hc.trans (hb1.mono hc.size)
        have hH := gS V25 hc.block
        refine hK.out _ _ hH ?_
        clear hK K hb1
        try simp only [Act.put, zA0, zZ0, zS0]
        refine wpZ 5 hH ?_
        refine wpAnyX_step (i := 7) (by kernel_rfl) rfl (by kernel_rfl) (fun K hK => ?_)
        go_simp
        go_at_call 8
        refine (HcB.out _).mono ?_
        rintro e w' ⟨rfl, hw'⟩
        obtain rfl := hw'.symm
        clear hw'
        refine hK.out _ _ hH ?_
        clear hK K
        try simp only [Act.put, zA0, zZ0, zS0]
        refine wpAnyX_step (i := 8) (by kernel_rfl) rfl (by kernel_rfl) (fun K hK => ?_)
        go_simp
        go_at_call 7
        refine (HOB.out _).mono ?_
        rintro e V26 ⟨rfl, hb1⟩
        have hc : Below wS.heap.size wS V26 := hc.trans (hb1.mono hc.size)
        have hH := gS V26 hc.block
        refine hK.out _ _ hH ?_
        clear hK K hb1
        try simp only [Act.put, zA0, zZ0, zS0]
        refine wpZ 9 hH ?_
        refine wpAnyX_step (i := 11) (by kernel_rfl) rfl (by kernel_rfl) (fun K hK => ?_)
        go_simp
        go_at_call 6
        refine (HN.out _).mono ?_
        rintro e VN ⟨X, rfl, hbN, hI⟩
        have hc : Below wS.heap.size wS VN := hc.trans (hbN.mono hc.size)
        have hH := gS VN hc.block
        refine hK.out _ _ hH ?_
        clear hK K hbN
        try simp only [Act.put, zA0, zZ0, zS0]
        refine wpZ 12 hH ?_
        refine wpZ 13 hH ?_
        refine wpZ 14 hH ?_
        refine wpZ 15 hH ?_
        refine wpZ 16 hH ?_
        refine wpZ 17 hH ?_
        refine wpZ 18 hH ?_
        refine wpAnyX_done (by kernel_rfl) ?_
        go_wp2_with fail
        go_meet
        case rel => exact ⟨X, _, rfl, rfl, hc, hI⟩
  case rest =>
    obtain ⟨X, base, rfl, rfl, hbC, hI⟩ := hcut
    obtain ⟨wC, hwC⟩ : ∃ W : World, W = wc := ⟨_, rfl⟩
    subst hwC
    have HC : Hid (Below w.heap.size w wC) := HBS.out.trans (hbC.mono HBS.out.size)
    have HI : Hid (IxP wC base X R k ww sc) := hI
    have hF := HKF.out
    have hsm := refsE_sum hF.re
    have cS := Save_any R base X k ww sc wC hF.k1 hF.k2 hF.w1 hF.w2 hF.s64 (fun x hx => ((hF.rq x hx).1.facts).1) (by have := hF.rl; omega) hsm (head_len k ww sc R (fun x hx => (hF.rq x hx).1.2) (by have := hF.rl; omega) hsm) hI
    clear hbC hI HN HOA HOB t6 t11 HcA HcB hF hsm HS0 HBS
    go_wp2_with fail
    refine cS.mono ?_
    rintro e w2 ⟨H, hH, rfl, hb2⟩
    obtain ⟨sv, hsv⟩ : ∃ sv : ByteArray, sv = ⟨(saveB k ww sc R H).toArray⟩ := ⟨_, rfl⟩
    have HSV : Hid (sv.data.toList = saveB k ww sc R H) := by show _ = _; rw [hsv]
    have hsvl : sv.size ≤ 400000000000 := by rw [ba_size, HSV.out]; exact save_size HKF.out H hH
    have hsv20 : 20 ≤ sv.size := by rw [ba_size, HSV.out, saveB_split, List.length_append]; have := HL20.out; omega
    have HH : Hid (HsP (tabN k ww R R.length) H) := hH
    have HB2 : Hid (Below wC.heap.size wC w2) := hb2
    have HSE : Hid (sv = ⟨(saveB k ww sc R H).toArray⟩) := hsv
    rw [← hsv]
    clear hsv hH hb2 cS
    have cL := load_same HKF.out H HH.out sv HSV.out (by omega) w2
    go_wp2_with fail
    refine cL.mono ?_
    rintro e w3 ⟨X2, rfl, hb3, hI3⟩
    have HI3 : Hid (IxP w3 w2.heap.size X2 R k ww sc) := hI3
    have HB3 : Hid (Below wC.heap.size wC w3) := HB2.out.trans (hb3.mono HB2.out.size)
    have cS2 := save_at HKF.out H HH.out hI3
    rw [← HSE.out] at cS2
    have hz20 : ¬ (sv.size : Int) < 20 := by omega
    have hzx : ¬ 9223372036854775807 < sv.size + 1 := by omega
    have hzx1 : sv.size + (⟨#[120]⟩ : ByteArray).size = sv.size + 1 := rfl
    clear hb3 hI3 cL HB2
    go_wp2_with (go_at_call 9; refine cS2.mono ?_; rintro e w4 ⟨rfl, hb4⟩)
    have HB4 : Hid (Below wC.heap.size wC w4) := HB3.out.trans (hb4.mono HB3.out.size)
    have HI4 : Hid (IxP w4 w2.heap.size X2 R k ww sc) := HI3.out.kept (fun g hg => hb4.block g hg)
    have cM := load_more HKF.out H HH.out sv HSV.out w4
    clear hb4 cS2 HI3 HB3
    refine cM.mono ?_
    rintro e w5 ⟨rfl, hb5⟩
    have HB5 : Hid (Below wC.heap.size wC w5) := HB4.out.trans (hb5.mono HB4.out.size)
    have HI5 : Hid (IxP w5 w2.heap.size X2 R k ww sc) := HI4.out.kept (fun g hg => hb5.block g hg)
    have cE := load_less HKF.out H HH.out sv HSV.out w5
    have hsvN : ((sv.size : Int) - 1).toNat = sv.size - 1 := by omega
    have hsvI : (sv.size : Int) - 1 = ((sv.size - 1 : Nat) : Int) := by omega
    clear hb5 cM HI4 HB4 hzx hzx1
    go_wp2_with fail
    refine cE.mono ?_
    rintro e w6 ⟨rfl, hb6⟩
    have HB6 : Hid (Below wC.heap.size wC w6) := HB5.out.trans (hb6.mono HB5.out.size)
    have HI6 : Hid (IxP w6 w2.heap.size X2 R k ww sc) := HI5.out.kept (fun g hg => hb6.block g hg)
    clear hb6 cE HI5 HB5 hsvN hsvI hz20
    go_wp2_with fail
    refine (HcC.out _).mono ?_
    rintro e w' ⟨rfl, hw'⟩
    obtain rfl := hw'.symm
    clear HcC hw'
    obtain ⟨TR, hTR⟩ : ∃ T : ByteArray, T = ⟨(ofL 114 rc).toArray⟩ := ⟨_, rfl⟩
    have cR := of_any 114 rc w6 (by omega)
    rw [← hTR] at cR
    have HTR : Hid (TR = ⟨(ofL 114 rc).toArray⟩) := hTR
    clear hTR
    go_wp2_with fail
    refine cR.mono ?_
    rintro e w7 ⟨rfl, hb7⟩
    have HB7 : Hid (Below wC.heap.size wC w7) := HB6.out.trans (hb7.mono HB6.out.size)
    have HI7 : Hid (IxP w7 w2.heap.size X2 R k ww sc) := HI6.out.kept (fun g hg => hb7.block g hg)
    have hW7 : Below w.heap.size w w7 := HC.out.trans (HB7.out.mono HC.out.size)
    have cP1 := map_kept2 R base X k ww sc rc TR HTR.out w7 G3.out s3 HKF.out HRO.out (HI.out.kept (fun g hg => HB7.out.block g hg)) (tabOnM HTAB.out hW7) (HLT.out.below hW7)
    clear hb7 cR HI6 HB6 hW7
    go_wp2_with fail
    refine cP1.mono ?_
    rintro e w8 ⟨rs1, hl1, hf1, a1, p1, rfl, hb8, hr1⟩
    have HB8 : Hid (Below wC.heap.size wC w8) := HB7.out.trans (hb8.mono HB7.out.size)
    have HI8 : Hid (IxP w8 w2.heap.size X2 R k ww sc) := HI7.out.kept (fun g hg => hb8.block g hg)
    have hW8 : Below w.heap.size w w8 := HC.out.trans (HB8.out.mono HC.out.size)
    have cP2 := map_kept2 R w2.heap.size X2 k ww sc rc TR HTR.out w8 G3.out s3 HKF.out HRO.out HI8.out (tabOnM HTAB.out hW8) (HLT.out.below hW8)
    have HR1 : Hid (RdR w8 46 a1 (rs1.filterMap id).length (foundsC (rs1.filterMap id))) := hr1
    have HF1 : Hid (FindsR R k ww sc [⟨⟨#[114]⟩, rc⟩] rs1) := hf1
    have HL1 : Hid (rs1.length = 1) := hl1
    clear hb8 cP1 HI7 HB7 hW8 hr1 hf1 hl1
    obtain ⟨n1, hn1⟩ : ∃ n, n = (rs1.filterMap id).length := ⟨_, rfl⟩
    rw [← hn1]
    go_wp2_with fail
    refine cP2.mono ?_
    rintro e w9 ⟨rs2, hl2, hf2, a2, p2, rfl, hb9, hr2⟩
    have e12 : rs2 = rs1 := FindsR.uniq hf2 HF1.out (hl2.trans HL1.out.symm)
    subst e12
    have HB9 : Hid (Below wC.heap.size wC w9) := HB8.out.trans (hb9.mono HB8.out.size)
    have HI9 : Hid (IxP w9 w2.heap.size X2 R k ww sc) := HI8.out.kept (fun g hg => hb9.block g hg)
    rw [← hn1] at hr2 ⊢
    have hr1' : RdR w9 46 a1 n1 (foundsC (rs2.filterMap id)) := fun h0 => by
      obtain ⟨g, o, cur, e, hg, hc⟩ := HR1.out (by rw [← hn1]; exact h0)
      exact ⟨g, o, cur, e, (hb9.block g (lt_of_block hg)).trans hg, hc⟩
    have hn1l : n1 ≤ 1 := by rw [hn1]; exact Nat.le_trans (List.length_filterMap_le _ _) (by rw [HL1.out]; exact Nat.le_refl _)
    have cF := sameFounds_any (rs2.filterMap id) n1 hn1.symm a1 a2 p1 p2 w9 hr1' hr2 (by omega) (founds_self HKF.out.k1 HKF.out.k2 HKF.out.w1 HRO.out (fun x hx => by simp at hx; rw [hx]; exact G3.out) HF1.out (by rw [HL1.out]; rfl))
    clear hb9 cP2 HI8 HB8 hr1' hr2 hf2 hl2 hn1 HR1 HF1 HL1
    go_wp2_with fail
    refine cF.mono ?_
    rintro e w10 ⟨rfl, hb10⟩
    have HB10 : Hid (Below wC.heap.size wC w10) := HB9.out.trans (hb10.mono HB9.out.size)
    have HI10 : Hid (IxP w10 w2.heap.size X2 R k ww sc) := HI9.out.kept (fun g hg => hb10.block g hg)
    have cK1 := Lookup_any R base X k ww sc hash HHA.out w10 HKF.out.k1 HKF.out.k2 HKF.out.w1 (fun x hx => (HRO.out.1 x hx).1) HRO.out.2.2 (HI.out.kept (fun g hg => HB10.out.block g hg))
    clear hb10 cF HI9 HB9 hn1l
    go_wp2_with fail
    refine cK1.mono ?_
    rintro e w11 ⟨v1, rfl, hb11, ho1⟩
    obtain ⟨va1, vc1, rfl⟩ := ho1.form
    have HB11 : Hid (Below wC.heap.size wC w11) := HB10.out.trans (hb11.mono HB10.out.size)
    have HI11 : Hid (IxP w11 w2.heap.size X2 R k ww sc) := HI10.out.kept (fun g hg => hb11.block g hg)
    have HO1 : Hid (RdR w11 78 va1 (tabN k ww R R.length hash).length (wcells (tabN k ww R R.length hash))) := RdR.of ho1
    have cK2 := Lookup_any R w2.heap.size X2 k ww sc hash HHA.out w11 HKF.out.k1 HKF.out.k2 HKF.out.w1 (fun x hx => (HRO.out.1 x hx).1) HRO.out.2.2 HI11.out
    obtain ⟨T, hT⟩ : ∃ T, T = tabN k ww R R.length hash := ⟨_, rfl⟩
    have hTl : T.length ≤ 100000 := by rw [hT]; have := tabN_len HKF.out.k1 HKF.out.k2 HKF.out.w1 R (fun x hx => (HRO.out.1 x hx).1) R.length (Nat.le_refl _) hash; have := HRO.out.2.2; omega
    rw [← hT] at cK2 HO1 ⊢
    obtain ⟨n2, hn2⟩ : ∃ n, n = T.length := ⟨_, rfl⟩
    rw [← hn2] at HO1 hTl ⊢
    clear hb11 cK1 HI10 HB10 ho1 hT
    go_wp2_with fail
    refine cK2.mono ?_
    rintro e w12 ⟨v2, rfl, hb12, ho2⟩
    obtain ⟨va2, vc2, rfl⟩ := ho2.form
    rw [← hn2] at ho2 ⊢
    have HB12 : Hid (Below wC.heap.size wC w12) := HB11.out.trans (hb12.mono HB11.out.size)
    have ho1' : RdR w12 78 va1 n2 (wcells T) := fun h0 => by
      obtain ⟨g, o, cur, e, hg, hc⟩ := HO1.out h0
      exact ⟨g, o, cur, e, (hb12.block g (lt_of_block hg)).trans hg, hc⟩
    have cH := sameHits_any T n2 hn2.symm va1 va2 vc1 vc2 w12 ho1' (RdR.of ho2) hTl
    clear hb12 cK2 HI11 HB11 ho1' ho2 HO1 hn2 hTl
    go_wp2_with fail
    refine cH.mono ?_
    rintro e w13 ⟨rfl, hb13⟩
    have HB13 : Hid (Below wC.heap.size wC w13) := HB12.out.trans (hb13.mono HB12.out.size)
    have cZ := load_any2 bs w13 (by omega)
    clear hb13 cH HB12
    go_wp2_with fail
    refine cZ.mono ?_
    rintro e w14 ⟨hb14, rfl | ⟨X3, rfl, hS3⟩⟩
    · have HB14 : Hid (Below w.heap.size w w14) := HC.out.trans ((HB13.out.trans (hb14.mono HB13.out.size)).mono HC.out.size)
      clear hb14 cZ
      go_wp2_with fail
      go_ret
      exact ⟨rfl, HB14.out⟩
    · have HB14 : Hid (Below w.heap.size w w14) := HC.out.trans ((HB13.out.trans (hb14.mono HB13.out.size)).mono HC.out.size)
      clear hb14 cZ
      go_wp2_with fail
      refine hS3.mono ?_
      rintro e w15 ⟨rfl, hb15⟩
      have HB15 : Hid (Below w.heap.size w w15) := HB14.out.trans (hb15.mono HB14.out.size)
      clear hb15 hS3
      go_wp2_with fail
      go_ret
      exact ⟨rfl, HB15.out⟩
end Go.Proofs.YtilcmkiihefkkabGreatDoor.Mn
end
