import Derived.Lib.AppendIntMem
import Derived.Lib.BufferKept
import Derived.Lib.ItoaLen
import Derived.Lib.OwnKind
import Derived.Lib.Slices
import Derived.OwnWalk
import Derived.Test.YtilcmkiihefkkabGreatDoorJk28
section
set_option linter.unusedVariables false
set_option linter.unusedSimpArgs false
set_option maxRecDepth 100000
namespace Go.Proofs.YtilcmkiihefkkabGreatDoor
open Go.RowKit Go.Shelf Go.Lib Go.Sort
/-- the letter of a number -/
def ltr (l : Nat) : UInt8 := ([77, 73, 68] : List UInt8).getD l 0
/-- runs as a text -/
def rtxt (ps : List (Nat × Nat)) : List UInt8 := ps.flatMap fun p => decDigits p.1 ++ [ltr p.2]
theorem rtxt_append (a : List (Nat × Nat)) (p : Nat × Nat) : rtxt (a ++ [p]) = rtxt a ++ (decDigits p.1 ++ [ltr p.2]) := by simp [rtxt]
theorem rl_len (L : List Nat) : ∀ k, (rl L k).2.length ≤ k
  | 0 => Nat.le_refl _
  | k + 1 => by
    rw [rl]
    split
    · simp; exact rl_len L k
    · have := rl_len L k; omega
theorem rtxt_len : ∀ (ps : List (Nat × Nat)), (∀ p ∈ ps, p.1 ≤ 1000) → (rtxt ps).length ≤ 30 * ps.length
  | [], _ => by simp [rtxt]
  | p :: ps, h => by
    have ih := rtxt_len ps (fun q hq => h q (List.mem_cons_of_mem _ hq))
    have hp := h p (List.mem_cons_self ..)
    have hi := itoa_length_le (p.1 : Int) (by omega) (by omega)
    rw [itoa_nonneg] at hi
    have e : rtxt (p :: ps) = decDigits p.1 ++ [ltr p.2] ++ rtxt ps := by simp [rtxt]
    rw [e]
    simp only [List.length_append, List.length_cons, List.length_nil]
    omega
theorem ltr_get (l : Nat) (h : l < (⟨#[77, 73, 68]⟩ : ByteArray).size) : (⟨#[77, 73, 68]⟩ : ByteArray)[l] = ltr l := by
  have : l < 3 := h
  rcases (show l = 0 ∨ l = 1 ∨ l = 2 by omega) with rfl | rfl | rfl <;> rfl
theorem Tryz.info5 : (Tryz.prog.info? 5).map (fun i => (i.zero, i.size, i.bytes)) = some (some (.int .u8 0), 1, 1) := by kernel_rfl
theorem conv_bytes (w : World) (base : Nat) (v : Value) (bs : List UInt8) (h : w.ownsRow base 5 1 v bs.length (Lib.byteCells bs)) :
    (convert 33 9 v).run Tryz.prog w = .ok (.string ⟨bs.toArray⟩) w := by
  rcases h.2 with ⟨rfl, hz⟩ | ⟨g, cap, cur, rfl, _, hg, _, _, _, hx⟩
  · obtain rfl : bs = [] := List.eq_nil_of_length_eq_zero hz
    exact run_convert_bytes_nil w 33 5 Tryz.underlying33 Tryz.underlying5 0 0 9 Tryz.underlying9
  · have := run_convert_bytes_back (P := Tryz.prog) w 33 9 5 ⟨g, 0, none⟩ cap bs Tryz.underlying33 Tryz.underlying5 Tryz.underlying9 (by
      intro j hj
      rw [Addr.add_lit, cell_of_row w g _ cur 5 (0, 0) hg, Nat.zero_add]
      have hq : (cur.toList.take (bs.length * 1))[j]? = some (.int .u8 (bs[j].toNat : Int)) := by
        rw [hx]; simp [Lib.byteCells, hj]
      rw [List.getElem?_take] at hq
      split at hq
      · simpa using hq
      · exact absurd hq (by simp))
    simpa using this
end Go.Proofs.YtilcmkiihefkkabGreatDoor
end
section
set_option linter.unusedVariables false
set_option linter.unusedSimpArgs false
set_option maxRecDepth 100000
namespace Go.Proofs.YtilcmkiihefkkabGreatDoor
open Go.RowKit Go.Shelf Go.Lib Go.Sort
set_option maxHeartbeats 4000000 in
theorem runs_any (L : List Nat) (n : Nat) (hn : L.length = n) (hn9 : n ≤ 900) (hl : ∀ x ∈ L, x ≤ 2) (base : Nat) (v : Value) (w : World) (hown : OwnR w base 3 1 v n (numV L))
    (htab : Lib.TabBelow Tryz.prog w.heap.size w "internal/strconv.uint64pow10" .u64 Lib.pow10Tab) :
    Calls Tryz.prog 99 #[v] w fun e w' => e = .returned (.string ⟨(rtxt (rl L n).2).toArray⟩) ∧ Below w.heap.size w w' := by
  obtain ⟨i5, hi5, hz0, hz1, hz2⟩ := info_parts Tryz.info5
  obtain ⟨ao, cap, rfl⟩ := hown.shape
  have HN : Hid (L.length = n) := hn
  have HL : Hid (∀ x ∈ L, x ≤ 2) := hl
  have HO : Hid (OwnR w base 3 1 (.slice ao n cap) n (numV L)) := hown
  have HTAB : Hid (Lib.TabBelow Tryz.prog w.heap.size w "internal/strconv.uint64pow10" .u64 Lib.pow10Tab) := htab
  clear hn hl hown htab
  go_enter Tryz.func99, Tryz.ntmps99
  go_wp2_with fail
  go_loopw [3, 4, 5] (fun tv fv iv wx => ∃ k : Nat, k ≤ n ∧ iv = .int .i64 ((k : Int) + 1) ∧ fv = .int .i64 ((rl L k).1 : Nat) ∧ wx.ownsRow w.heap.size 5 1 tv (rtxt (rl L k).2).length (Lib.byteCells (rtxt (rl L k).2)) ∧ Below w.heap.size w wx) (fun _ _ iv _ => n + 2 - (RowKit.intOf iv).toNat)
  case atStart => exact ⟨0, Nat.zero_le _, rfl, rfl, World.ownsRow_nil _ _ _ _, Below.refl _ _⟩
  case round =>
    obtain ⟨k, hk, rfl, rfl, hown, hbel⟩ := hrel
    have hfl := (rl_from L k).1
    obtain ⟨fr, hfr⟩ : ∃ x, x = (rl L k).1 := ⟨_, rfl⟩
    obtain ⟨TX, hTX⟩ : ∃ x, x = rtxt (rl L k).2 := ⟨_, rfl⟩
    have hsm := rl_small L n (by rw [HN.out]; exact Nat.le_refl _) HL.out k (by rw [HN.out]; exact hk)
    have htl : TX.length ≤ 30000 := by
      have h1 := rtxt_len (rl L k).2 (fun p hp => by have := (hsm p hp).2.1; omega)
      have h2 := rl_len L k
      rw [hTX]; omega
    rw [← hfr] at hfl ⊢
    rw [← hTX] at hown
    have HFR : Hid (fr = (rl L k).1) := hfr
    have HTX : Hid (TX = rtxt (rl L k).2) := hTX
    have HOWN : Hid (wr.ownsRow w.heap.size 5 1 u3 TX.length (Lib.byteCells TX)) := hown
    have HBEL : Hid (Below w.heap.size w wr) := hbel
    have hsz := hbel.size
    clear hfr hTX hown hbel hsm
    by_cases hlt : k < n
    · have hkI : (k : Int) + 1 ≤ n := by omega
      obtain ⟨g, o, cap', hv, hg1, hg2⟩ := HO.out.addr (by omega)
      have hv2 : ao = some ⟨g, o, none⟩ ∧ cap = cap' := by simpa using hv
      obtain ⟨rfl, rfl⟩ := hv2
      clear hv
      have hfn : fr < L.length := by rw [HN.out]; omega
      have cf := HO.out.cell (numV_get L fr hfn)
      obtain ⟨lf, hlf⟩ : ∃ x, x = L.getD fr 9 := ⟨_, rfl⟩
      rw [← hlf] at cf
      rw [← HBEL.out.cell (p := ⟨g, o + fr, none⟩) hg2] at cf
      have hl2 : lf ≤ 2 := by
        have : L.getD fr 9 ∈ L := by simp [hfn]
        rw [hlf]; exact HL.out _ this
      have HLF : Hid (lf = L.getD fr 9) := hlf
      have hcond := rl_cond L k (by rw [HN.out]; exact hlt)
      have hlett := rl_letter L k (by rw [HN.out]; exact hlt)
      rw [← HFR.out, ← HLF.out] at hcond
      rw [← HFR.out, ← HLF.out] at hlett
      have HLETT : Hid (L.getD k 9 = lf) := hlett
      have hfI : (fr : Int) < n := by omega
      clear hlf hlett
      by_cases hend : k + 1 = L.length ∨ L.getD (k + 1) 9 ≠ L.getD k 9
      · have hidg : Lib.itoa ((k : Int) + 1 - fr) = decDigits (k + 1 - fr) := by
          rw [show (k : Int) + 1 - fr = ((k + 1 - fr : Nat) : Int) by omega, itoa_nonneg]
        have hil : (Lib.itoa ((k : Int) + 1 - fr)).length ≤ 21 := itoa_length_le _ (by omega) (by omega)
        have cf0 : w.cell? ⟨g, o + fr, none⟩ = some (.int .i64 lf) := (HBEL.out.cell (p := ⟨g, o + fr, none⟩) hg2).symm.trans cf
        have hl3 : (lf : Int) < 3 := by omega
        have hls : lf < (⟨#[77, 73, 68]⟩ : ByteArray).size := (show lf < 3 by omega)
        have HEND : Hid (k + 1 = L.length ∨ L.getD (k + 1) 9 ≠ L.getD k 9) := hend
        have hkn : ((k : Int) + 1).toNat = k + 1 := by omega
        have h0k : (0 : Int) ≤ (k : Int) + 1 := by omega
        have hsw : IntKind.i64.wrap ((k : Int) + 1 - fr) = (k : Int) + 1 - fr := by rw [IntKind.wrap_i64]; omega
        have hk1w : IntKind.i64.wrap ((k : Int) + 1 + 1) = (k : Int) + 1 + 1 := by rw [IntKind.wrap_i64]; omega
        by_cases hk1 : k + 1 < n
        · have hne : ¬ L.getD (k + 1) 9 = lf := fun h => absurd hend (hcond.1 ⟨by rw [HN.out]; exact hk1, h⟩)
          have ck := HO.out.cell (numV_get L (k + 1) (by rw [HN.out]; exact hk1))
          obtain ⟨lk, hlk⟩ : ∃ x, x = L.getD (k + 1) 9 := ⟨_, rfl⟩
          rw [← hlk] at ck hne
          have hneI : ¬ ((lk : Int) = (lf : Int)) := by omega
          rw [← HBEL.out.cell (p := ⟨g, o + (k + 1), none⟩) hg2] at ck
          have hk1I : (k : Int) + 1 < n := by omega
          clear hcond hend hlk hne
          go_upto_region 5 with fail
          refine wp_region_X 15 (fun W => W.cell? ⟨g, o + (k + 1), none⟩ = some (.int .i64 lk) ∧ W.cell? ⟨g, o + fr, none⟩ = some (.int .i64 lf)) (by kernel_rfl) ⟨ck, cf⟩ (fun hH => ?_)
          refine wpZ 0 hH ?_
          refine wpZ 1 hH ?_
          refine wpZ 2 hH ?_
          refine wpZ 3 hH ?_
          refine wpZ 4 hH ?_
          refine wpZ 5 hH ?_
          refine wpZ 6 hH ?_
          refine wpZ 7 hH ?_
          refine wpZ 8 hH ?_
          refine wpZ 9 hH ?_
          refine wpZ 10 hH ?_
          refine wpZ 11 hH ?_
          refine wpZ 12 hH ?_
          refine wpZ 13 hH ?_
          refine wpZ 14 hH ?_
          refine wpAnyX_done (by kernel_rfl) ?_
          clear hH ck cf
          go_wp2_with (first | (go_at_call 138; refine (Any.strconv_AppendInt_10 Tryz.laysAI w.heap.size TX.length ((k : Int) + 1 - fr) (by omega) (by omega) u3 (Lib.byteCells TX) _ (by exact HOWN.out) (by exact hsz) (by omega) (by exact fun w' hb => HTAB.out w' ((belDrewN HBEL.out 1).trans hb))).mono ?_; rintro e w5 ⟨v5, rfl, hown5, hbe5, hok5⟩; have HB5 : Hid (Below w.heap.size w w5) := (belDrewN HBEL.out 1).trans hbe5; have cf5 := (HB5.out.cell (p := ⟨g, o + fr, none⟩) hg2).trans cf0; have HO5 : Hid (w5.ownsRow w.heap.size 5 1 v5 (TX.length + (Lib.itoa ((k : Int) + 1 - fr)).length) (Lib.byteCells TX ++ Lib.byteCells (Lib.itoa ((k : Int) + 1 - fr)))) := hown5; have hs5 := HB5.out.size; clear hown5 hbe5 hok5) | (at_builtin; go_must (refine wpList_append_own _ rfl _ _ 33 rfl w.heap.size 5 i5 (.int .u8 0) 1 1 Tryz.underlying33 hi5 hz0 hz1 hz2 rfl (by decide) _ _ _ rfl (by exact HO5.out.alloc _) ⟨w5.heap.size, 0, none⟩ 1 1 [.int .u8 ((⟨#[77, 73, 68]⟩ : ByteArray)[lf].toNat : Int)] rfl rfl (by exact box_at w5 [.int .u8 ((⟨#[77, 73, 68]⟩ : ByteArray)[lf].toNat : Int)] 5 _ rfl) (int_oneCell _ _) (by unfold maxLen; omega) (by omega) (by simp; omega) ?_; intro v6 w6 hown6 hgrow6 _)))
          go_roundw
          case rel =>
            have e : rl L (k + 1) = (k + 1, (rl L k).2 ++ [(k + 1 - fr, lf)]) := by
              rw [rl, if_pos HEND.out, ← HFR.out, HLETT.out]
            refine ⟨k + 1, by omega, by go_num, ?_, ?_, ?_⟩
            · rw [e]; rfl
            · rw [e]
              simp only
              have e2 : Lib.byteCells (rtxt ((rl L k).2 ++ [(k + 1 - fr, lf)])) = Lib.byteCells TX ++ Lib.byteCells (Lib.itoa ((k : Int) + 1 - fr)) ++ [.int .u8 ((⟨#[77, 73, 68]⟩ : ByteArray)[lf].toNat : Int)] := by
                rw [rtxt_append, ← HTX.out, hidg, ltr_get lf (show lf < 3 by omega)]
                simp [Lib.byteCells]
              have e3 : (rtxt ((rl L k).2 ++ [(k + 1 - fr, lf)])).length = TX.length + (Lib.itoa ((k : Int) + 1 - fr)).length + 1 := by
                rw [rtxt_append, ← HTX.out, hidg]; simp; omega
              rw [e2, e3]
              exact hown6
            · exact ((HB5.out.alloc (by omega) _).grown hgrow6 (by simp; omega) (fun q hq => (HO5.out.lt q hq).1))
          case measure => simp [RowKit.intOf]; omega
        · have hk1I : ¬ (k : Int) + 1 < n := by omega
          clear hcond hend
          go_upto_region 5 with fail
          refine wp_region_X 15 (fun W => W.cell? ⟨g, o + fr, none⟩ = some (.int .i64 lf)) (by kernel_rfl) cf (fun hH => ?_)
          refine wpZ 0 hH ?_
          refine wpZ 1 hH ?_
          refine wpZ 2 hH ?_
          refine wpZ 3 hH ?_
          refine wpZ 4 hH ?_
          refine wpAnyX_take (i := 5) (v := undef) rfl (by kernel_rfl) (by kernel_rfl) (by kernel_rfl) (by kernel_rfl) (fun _ _ _ h => h) (Or.inr ⟨by rfl, rfl⟩) hH ?_
          try simp only [Act.put, zA0, zZ0, zS0]
          refine wpAnyX_take (i := 6) (v := undef) rfl (by kernel_rfl) (by kernel_rfl) (by kernel_rfl) (by kernel_rfl) (fun _ _ _ h => h) (Or.inr ⟨by rfl, rfl⟩) hH ?_
          try simp only [Act.put, zA0, zZ0, zS0]
          refine wpAnyX_take (i := 7) (v := undef) rfl (by kernel_rfl) (by kernel_rfl) (by kernel_rfl) (by kernel_rfl) (fun _ _ _ h => h) (Or.inr ⟨by rfl, rfl⟩) hH ?_
          try simp only [Act.put, zA0, zZ0, zS0]
          refine wpAnyX_take (i := 8) (v := undef) rfl (by kernel_rfl) (by kernel_rfl) (by kernel_rfl) (by kernel_rfl) (fun _ _ _ h => h) (Or.inr ⟨by rfl, rfl⟩) hH ?_
          try simp only [Act.put, zA0, zZ0, zS0]
          refine wpAnyX_take (i := 9) (v := undef) rfl (by kernel_rfl) (by kernel_rfl) (by kernel_rfl) (by kernel_rfl) (fun _ _ _ h => h) (Or.inr ⟨by rfl, rfl⟩) hH ?_
          try simp only [Act.put, zA0, zZ0, zS0]
          refine wpAnyX_take (i := 10) (v := undef) rfl (by kernel_rfl) (by kernel_rfl) (by kernel_rfl) (by kernel_rfl) (fun _ _ _ h => h) (Or.inr ⟨by rfl, rfl⟩) hH ?_
          try simp only [Act.put, zA0, zZ0, zS0]
          refine wpAnyX_take (i := 11) (v := undef) rfl (by kernel_rfl) (by kernel_rfl) (by kernel_rfl) (by kernel_rfl) (fun _ _ _ h => h) (Or.inr ⟨by rfl, rfl⟩) hH ?_
          try simp only [Act.put, zA0, zZ0, zS0]
          refine wpAnyX_take (i := 12) (v := undef) rfl (by kernel_rfl) (by kernel_rfl) (by kernel_rfl) (by kernel_rfl) (fun _ _ _ h => h) (Or.inr ⟨by rfl, rfl⟩) hH ?_
          try simp only [Act.put, zA0, zZ0, zS0]
          refine wpAnyX_take (i := 13) (v := undef) rfl (by kernel_rfl) (by kernel_rfl) (by kernel_rfl) (by kernel_rfl) (fun _ _ _ h => h) (Or.inr ⟨by rfl, rfl⟩) hH ?_
          try simp only [Act.put, zA0, zZ0, zS0]
          refine wpZ 14 hH ?_
          refine wpAnyX_done (by kernel_rfl) ?_
          clear hH cf
          go_wp2_with (first | (go_at_call 138; refine (Any.strconv_AppendInt_10 Tryz.laysAI w.heap.size TX.length ((k : Int) + 1 - fr) (by omega) (by omega) u3 (Lib.byteCells TX) _ (by exact HOWN.out) (by exact hsz) (by omega) (by exact fun w' hb => HTAB.out w' ((belDrewN HBEL.out 1).trans hb))).mono ?_; rintro e w5 ⟨v5, rfl, hown5, hbe5, hok5⟩; have HB5 : Hid (Below w.heap.size w w5) := (belDrewN HBEL.out 1).trans hbe5; have cf5 := (HB5.out.cell (p := ⟨g, o + fr, none⟩) hg2).trans cf0; have HO5 : Hid (w5.ownsRow w.heap.size 5 1 v5 (TX.length + (Lib.itoa ((k : Int) + 1 - fr)).length) (Lib.byteCells TX ++ Lib.byteCells (Lib.itoa ((k : Int) + 1 - fr)))) := hown5; have hs5 := HB5.out.size; clear hown5 hbe5 hok5) | (at_builtin; go_must (refine wpList_append_own _ rfl _ _ 33 rfl w.heap.size 5 i5 (.int .u8 0) 1 1 Tryz.underlying33 hi5 hz0 hz1 hz2 rfl (by decide) _ _ _ rfl (by exact HO5.out.alloc _) ⟨w5.heap.size, 0, none⟩ 1 1 [.int .u8 ((⟨#[77, 73, 68]⟩ : ByteArray)[lf].toNat : Int)] rfl rfl (by exact box_at w5 [.int .u8 ((⟨#[77, 73, 68]⟩ : ByteArray)[lf].toNat : Int)] 5 _ rfl) (int_oneCell _ _) (by unfold maxLen; omega) (by omega) (by simp; omega) ?_; intro v6 w6 hown6 hgrow6 _)))
          go_roundw
          case rel =>
            have e : rl L (k + 1) = (k + 1, (rl L k).2 ++ [(k + 1 - fr, lf)]) := by
              rw [rl, if_pos HEND.out, ← HFR.out, HLETT.out]
            refine ⟨k + 1, by omega, by go_num, ?_, ?_, ?_⟩
            · rw [e]; rfl
            · rw [e]
              simp only
              have e2 : Lib.byteCells (rtxt ((rl L k).2 ++ [(k + 1 - fr, lf)])) = Lib.byteCells TX ++ Lib.byteCells (Lib.itoa ((k : Int) + 1 - fr)) ++ [.int .u8 ((⟨#[77, 73, 68]⟩ : ByteArray)[lf].toNat : Int)] := by
                rw [rtxt_append, ← HTX.out, hidg, ltr_get lf (show lf < 3 by omega)]
                simp [Lib.byteCells]
              have e3 : (rtxt ((rl L k).2 ++ [(k + 1 - fr, lf)])).length = TX.length + (Lib.itoa ((k : Int) + 1 - fr)).length + 1 := by
                rw [rtxt_append, ← HTX.out, hidg]; simp; omega
              rw [e2, e3]
              exact hown6
            · exact ((HB5.out.alloc (by omega) _).grown hgrow6 (by simp; omega) (fun q hq => (HO5.out.lt q hq).1))
          case measure => simp [RowKit.intOf]; omega
      · have hc := hcond.2 hend
        rw [HN.out] at hc
        obtain ⟨hk1, hk2⟩ := hc
        have ck := HO.out.cell (numV_get L (k + 1) (by rw [HN.out]; exact hk1))
        rw [hk2] at ck
        rw [← HBEL.out.cell (p := ⟨g, o + (k + 1), none⟩) hg2] at ck
        have hk1I : (k : Int) + 1 < n := by omega
        have hkn : ((k : Int) + 1).toNat = k + 1 := by omega
        have h0k : (0 : Int) ≤ (k : Int) + 1 := by omega
        have HEND : Hid (¬ (k + 1 = L.length ∨ L.getD (k + 1) 9 ≠ L.getD k 9)) := hend
        clear hcond hk2 hend
        go_upto_region 5 with fail
        refine wp_region_X 15 (fun W => W.cell? ⟨g, o + (k + 1), none⟩ = some (.int .i64 lf) ∧ W.cell? ⟨g, o + fr, none⟩ = some (.int .i64 lf)) (by kernel_rfl) ⟨ck, cf⟩ (fun hH => ?_)
        refine wpZ 0 hH ?_
        refine wpZ 1 hH ?_
        refine wpZ 2 hH ?_
        refine wpZ 3 hH ?_
        refine wpZ 4 hH ?_
        refine wpZ 5 hH ?_
        refine wpZ 6 hH ?_
        refine wpZ 7 hH ?_
        refine wpZ 8 hH ?_
        refine wpZ 9 hH ?_
        refine wpZ 10 hH ?_
        refine wpZ 11 hH ?_
        refine wpZ 12 hH ?_
        refine wpZ 13 hH ?_
        refine wpZ 14 hH ?_
        refine wpAnyX_done (by kernel_rfl) ?_
        clear hH ck cf
        go_wp2_with fail
        go_roundw
        case rel =>
          have e : rl L (k + 1) = rl L k := by rw [rl, if_neg HEND.out]
          refine ⟨k + 1, by omega, by go_num, ?_, ?_, belDrewN HBEL.out 1⟩
          · rw [e, HFR.out]
          · rw [e, ← HTX.out]; exact HOWN.out
        case measure => simp [RowKit.intOf]; omega
    · have hke : k = n := by omega
      subst hke
      have hcv := conv_bytes wr w.heap.size u3 TX HOWN.out
      have hnI : ¬ (k : Int) + 1 ≤ k := by omega
      go_wp2_with fail
      go_ret
      refine ⟨?_, HBEL.out⟩
      rw [HTX.out]
      rfl
end Go.Proofs.YtilcmkiihefkkabGreatDoor
end
section
set_option linter.unusedVariables false
set_option linter.unusedSimpArgs false
set_option maxRecDepth 100000
namespace Go.Proofs.YtilcmkiihefkkabGreatDoor
open Go.RowKit Go.Shelf Go.Lib
theorem RowP.ownPre {w : World} {g n j base : Nat} {h : Nat → C3} (hr : RowP w g n h j) (hj : j ≤ n) (hb : base ≤ g) (hn : n ≤ maxLen) : OwnR w base 229 3 (.slice (some ⟨g, 0, none⟩) j n) j (celsL h j) := by
  obtain ⟨cur, h1, h2, h3⟩ := hr
  refine ⟨celsL_length h j, Or.inr ⟨g, 0, n, cur, rfl, hb, h1, hj, hn, by omega, fun t u ht => ?_⟩⟩
  have hl := celsL_length h j
  have htl : t < j * 3 := by
    rcases Nat.lt_or_ge t (j * 3) with h | h
    · exact h
    · rw [List.getElem?_eq_none (by omega)] at ht; exact absurd ht (by simp)
  obtain ⟨g1, g2, g3⟩ := celsL_get h j (t / 3) (by omega)
  obtain ⟨e1, e2, e3⟩ := h3 (t / 3) (by omega)
  rw [Nat.zero_add]
  rcases (show t = t / 3 * 3 ∨ t = t / 3 * 3 + 1 ∨ t = t / 3 * 3 + 2 by omega) with he | he | he
  · rw [he] at ht ⊢; rw [g1] at ht; rw [← ht]; exact e1
  · rw [he] at ht ⊢; rw [g2] at ht; rw [← ht]; exact e2
  · rw [he] at ht ⊢; rw [g3] at ht; rw [← ht]; exact e3
set_option maxHeartbeats 4000000 in
theorem ngrid_any (m : Nat) (hm : m ≤ 600) (w : World) :
    Calls Tryz.prog 95 #[.int .i64 m] w fun e w' => ∃ B vw v0, e = .returned (.pointer (some ⟨B, 0, none⟩)) ∧ w.heap.size ≤ B ∧ w'.heap[B]? = some (.cells #[.slice none 0 0, .slice none 0 0, vw] 232 (0, 0)) ∧
      OwnR w' w.heap.size 227 1 vw 1 [v0] ∧ OwnR w' w.heap.size 229 3 v0 1 (celsL (row0 1048576) 1) ∧ Below w.heap.size w w' := by
  obtain ⟨ic, hic, hy0, hy1, hy2⟩ := info_parts Tryz.infoCell
  obtain ⟨Z, hZ, hmk⟩ : ∃ Z : Array Value, Z.size = (m + 1) * 3 ∧ ∀ W : World, (Instr.makeSlice 227 (.int .i64 1) (.int .i64 ((m : Int) + 1))).run Tryz.prog W = .ok (.slice (some ⟨W.heap.size, 0, none⟩) 1 (m + 1)) (W.alloc (.cells Z 229)) := by
    refine ⟨madeCells (Value.agg #[.int .i64 0, .int .i64 0, .int .i64 0]).cells ((m + 1) * 3), by rw [size_madeCells], fun W => ?_⟩
    have e : (m : Int) + 1 = ((m + 1 : Nat) : Int) := by omega
    rw [e]
    have := run_make (P := Tryz.prog) W 227 229 ic _ Tryz.underlying227 hic hy0 .i64 .i64 1 ((m + 1 : Nat) : Int) (by omega) (by omega) (by rw [hy2]; omega) (by omega)
    rw [hy1] at this
    simpa using this
  have hmw : IntKind.i64.wrap ((m : Int) + 1) = (m : Int) + 1 := by rw [IntKind.wrap_i64]; omega
  go_enter Tryz.func95, Tryz.ntmps95
  go_upto_region 2 with fail
  obtain ⟨w1, hw1⟩ : ∃ w1 : World, w1 = w.alloc (.cells Z 229) := ⟨_, rfl⟩
  obtain ⟨X, hX⟩ : ∃ X, X = w.heap.size := ⟨_, rfl⟩
  have hA : w1.heap[X]? = some (.cells Z 229 (0, 0)) := by rw [hw1, hX]; exact heap_alloc_new w _
  have hR : RowP w1 X (m + 1) (row0 1048576) 0 := ⟨Z, hA, hZ, fun t ht => absurd ht (by omega)⟩
  have HB1 : Hid (Below X w w1) := by rw [hw1, hX]; exact (Below.refl _ w).alloc (Nat.le_refl _) _
  have hs1 : w1.heap.size = X + 1 := by rw [hw1, hX]; simp
  obtain ⟨⟨y0, c0⟩, z0⟩ := hR.any 0 (by omega)
  obtain ⟨⟨y1, c1⟩, z1⟩ := hR.any 1 (by omega)
  obtain ⟨⟨y2, c2⟩, z2⟩ := hR.any 2 (by omega)
  have HR : Hid (RowP w1 X (m + 1) (row0 1048576) 0) := hR
  have HX : Hid (X = w.heap.size) := hX
  rw [← hw1, ← hX]
  clear hw1 hX hA hR hZ hmk
  go_upto_region 3 with fail
  have hr2 := HR.out.set (by omega) 0 1048576 1048576 rfl
  simp only [Nat.zero_mul, Nat.zero_add] at hr2
  have hb2 := ((HB1.out.setCell (p := ⟨X, 0, none⟩) (Nat.le_refl _) (.int .i64 0)).setCell (p := ⟨X, 1, none⟩) (Nat.le_refl _) (.int .i64 1048576)).setCell (p := ⟨X, 2, none⟩) (Nat.le_refl _) (.int .i64 1048576)
  have hs2 : ((((w1.setCell ⟨X, 0, none⟩ (.int .i64 0)).setCell ⟨X, 1, none⟩ (.int .i64 1048576)).setCell ⟨X, 2, none⟩ (.int .i64 1048576))).heap.size = X + 1 := by simpa using hs1
  generalize (((w1.setCell ⟨X, 0, none⟩ (.int .i64 0)).setCell ⟨X, 1, none⟩ (.int .i64 1048576)).setCell ⟨X, 2, none⟩ (.int .i64 1048576)) = w2 at hr2 hb2 hs2 ⊢
  have HR2 : Hid (RowP w2 X (m + 1) (row0 1048576) 1) := hr2
  have HB2 : Hid (Below X w w2) := hb2
  clear hr2 hb2 c0 c1 c2 z0 z1 z2 HR HB1 hs1
  go_wp2_with fail
  go_ret
  obtain ⟨oA, hoA⟩ : ∃ o : Obj, o = .cells #[.slice (some ⟨X, 0, none⟩) 1 (m + 1)] 227 (0, 0) := ⟨_, rfl⟩
  obtain ⟨oB, hoB⟩ : ∃ o : Obj, o = .cells #[.slice none 0 0, .slice none 0 0, .slice (some ⟨X + 1, 0, none⟩) 1 1] 232 (0, 0) := ⟨_, rfl⟩
  rw [← hoA, ← hoB, ← HX.out]
  have hsA : (w2.alloc oA).heap.size = X + 1 + 1 := by simp [hs2]
  have hB : ((w2.alloc oA).alloc oB).heap[X + 1 + 1]? = some oB := by
    have := heap_alloc_new (w2.alloc oA) oB
    rwa [hsA] at this
  have hA : ((w2.alloc oA).alloc oB).heap[X + 1]? = some oA := by
    rw [Below.heap_alloc _ _ _ (by omega)]
    have := heap_alloc_new w2 oA
    rwa [hs2] at this
  refine ⟨X + 1 + 1, .slice (some ⟨X + 1, 0, none⟩) 1 1, .slice (some ⟨X, 0, none⟩) 1 (m + 1), rfl, by omega, hB.trans (by rw [hoB]), ?_, ?_, ?_⟩
  · refine ⟨rfl, Or.inr ⟨X + 1, 0, 1, #[.slice (some ⟨X, 0, none⟩) 1 (m + 1)], rfl, by omega, hA.trans (by rw [hoA]), Nat.le_refl _, by decide, by simp, fun j u hj => ?_⟩⟩
    simpa using hj
  · exact ((HR2.out.ownPre (by omega) (Nat.le_refl _) (by unfold maxLen; omega)).alloc oA).alloc oB
  · exact (HB2.out.alloc (by omega) oA).alloc (by rw [hsA]; omega) oB
end Go.Proofs.YtilcmkiihefkkabGreatDoor
end
