import Derived.Test.YtilcmkiihefkkaaDoorSeB
import Derived.OwnWalk
import Derived.Lib.Slices
import Derived.Lib.OwnKind
import Derived.Lib.BufferKept
set_option linter.unusedVariables false
set_option linter.unusedSimpArgs false
set_option maxRecDepth 100000
namespace Go.Proofs.YtilcmkiihefkkaaDoor
open Go.RowKit Go.Shelf Go.Lib Go.Sort

set_option maxHeartbeats 4000000 in
theorem runs_any (L : List Nat) (n : Nat) (hn : L.length = n) (hn9 : n ≤ 900) (hl : ∀ x ∈ L, x ≤ 2) (base : Nat) (v : Value) (w : World) (hown : OwnR w base 3 1 v n (numV L))
    (htab : Lib.TabBelow Tryd.prog w.heap.size w "internal/strconv.uint64pow10" .u64 Lib.pow10Tab) :
    Calls Tryd.prog 17 #[v] w fun e w' => e = .returned (.string ⟨(rtxt (rl L n).2).toArray⟩) ∧ Below w.heap.size w w' := by
  obtain ⟨i5, hi5, hz0, hz1, hz2⟩ := info_parts Tryd.info5
  obtain ⟨ao, cap, rfl⟩ := hown.shape
  have HN : Hid (L.length = n) := hn
  have HL : Hid (∀ x ∈ L, x ≤ 2) := hl
  have HO : Hid (OwnR w base 3 1 (.slice ao n cap) n (numV L)) := hown
  have HTAB : Hid (Lib.TabBelow Tryd.prog w.heap.size w "internal/strconv.uint64pow10" .u64 Lib.pow10Tab) := htab
  clear hn hl hown htab
  go_enter Tryd.func17, Tryd.ntmps17
  go_wp2_with fail
  go_loopw [3, 4, 5] (fun tv fv iv wx => ∃ k : Nat, k ≤ n ∧ iv = .int .i64 ((k : Int) + 1) ∧ fv = .int .i64 ((rl L k).1 : Nat) ∧ wx.ownsRow w.heap.size 5 1 tv (rtxt (rl L k).2).length (Lib.byteCells (rtxt (rl L k).2)) ∧ Below w.heap.size w wx) (fun _ _ iv _ => n + 2 - (RowKit.intOf iv).toNat)
  case atStart => exact ⟨0, Nat.zero_le _, rfl, rfl, World.ownsRow_nil _ _ _ _, Below.refl _ _⟩
  case round =>
    obtain ⟨k, hk, rfl, rfl, hown, hbel⟩ := hrel
    have hfl := (rl_from L k).1
    obtain ⟨fr, hfr⟩ : ∃ x, x = (rl L k).1 := ⟨_, rfl⟩
    obtain ⟨TX, hTX⟩ : ∃ x, x = rtxt (rl L k).2 := ⟨_, rfl⟩
    have hsm := rl_small L n (by rw [HN.out]; exact Nat.le_refl _) HL.out k (by rw [HN.out]; exact hk)
    have htl : TX.length ≤ 30000 := by
      have h1 := rtxt_len (rl L k).2 (fun p hp => by have := (hsm p hp).2.1; omega)
      have h2 := rl_len L k
      rw [hTX]; omega
    rw [← hfr] at hfl ⊢
    rw [← hTX] at hown
    have HFR : Hid (fr = (rl L k).1) := hfr
    have HTX : Hid (TX = rtxt (rl L k).2) := hTX
    have HOWN : Hid (wr.ownsRow w.heap.size 5 1 u3 TX.length (Lib.byteCells TX)) := hown
    have HBEL : Hid (Below w.heap.size w wr) := hbel
    have hsz := hbel.size
    clear hfr hTX hown hbel hsm
    by_cases hlt : k < n
    · have hkI : (k : Int) + 1 ≤ n := by omega
      obtain ⟨g, o, cap', hv, hg1, hg2⟩ := HO.out.addr (by omega)
      have hv2 : ao = some ⟨g, o, none⟩ ∧ cap = cap' := by simpa using hv
      obtain ⟨rfl, rfl⟩ := hv2
      clear hv
      have hfn : fr < L.length := by rw [HN.out]; omega
      have cf := HO.out.cell (numV_get L fr hfn)
      obtain ⟨lf, hlf⟩ : ∃ x, x = L.getD fr 9 := ⟨_, rfl⟩
      rw [← hlf] at cf
      rw [← HBEL.out.cell (p := ⟨g, o + fr, none⟩) hg2] at cf
      have hl2 : lf ≤ 2 := by
        have : L.getD fr 9 ∈ L := by simp [hfn]
        rw [hlf]; exact HL.out _ this
      have HLF : Hid (lf = L.getD fr 9) := hlf
      have hcond := rl_cond L k (by rw [HN.out]; exact hlt)
      have hlett := rl_letter L k (by rw [HN.out]; exact hlt)
      rw [← HFR.out, ← HLF.out] at hcond
      rw [← HFR.out, ← HLF.out] at hlett
      have HLETT : Hid (L.getD k 9 = lf) := hlett
      have hfI : (fr : Int) < n := by omega
      clear hlf hlett
      by_cases hend : k + 1 = L.length ∨ L.getD (k + 1) 9 ≠ L.getD k 9
      · have hidg : Lib.itoa ((k : Int) + 1 - fr) = decDigits (k + 1 - fr) := by
          rw [show (k : Int) + 1 - fr = ((k + 1 - fr : Nat) : Int) by omega, itoa_nonneg]
        have hil : (Lib.itoa ((k : Int) + 1 - fr)).length ≤ 21 := itoa_length_le _ (by omega) (by omega)
        have cf0 : w.cell? ⟨g, o + fr, none⟩ = some (.int .i64 lf) := (HBEL.out.cell (p := ⟨g, o + fr, none⟩) hg2).symm.trans cf
        have hl3 : (lf : Int) < 3 := by omega
        have hls : lf < (⟨#[77, 73, 68]⟩ : ByteArray).size := (show lf < 3 by omega)
        have HEND : Hid (k + 1 = L.length ∨ L.getD (k + 1) 9 ≠ L.getD k 9) := hend
        have hkn : ((k : Int) + 1).toNat = k + 1 := by omega
        have h0k : (0 : Int) ≤ (k : Int) + 1 := by omega
        have hsw : IntKind.i64.wrap ((k : Int) + 1 - fr) = (k : Int) + 1 - fr := by rw [IntKind.wrap_i64]; omega
        have hk1w : IntKind.i64.wrap ((k : Int) + 1 + 1) = (k : Int) + 1 + 1 := by rw [IntKind.wrap_i64]; omega
        by_cases hk1 : k + 1 < n
        · have hne : ¬ L.getD (k + 1) 9 = lf := fun h => absurd hend (hcond.1 ⟨by rw [HN.out]; exact hk1, h⟩)
          have ck := HO.out.cell (numV_get L (k + 1) (by rw [HN.out]; exact hk1))
          obtain ⟨lk, hlk⟩ : ∃ x, x = L.getD (k + 1) 9 := ⟨_, rfl⟩
          rw [← hlk] at ck hne
          have hneI : ¬ ((lk : Int) = (lf : Int)) := by omega
          rw [← HBEL.out.cell (p := ⟨g, o + (k + 1), none⟩) hg2] at ck
          have hk1I : (k : Int) + 1 < n := by omega
          clear hcond hend hlk hne
          go_upto_region 5 with fail
          refine wp_region_X 15 (fun W => W.cell? ⟨g, o + (k + 1), none⟩ = some (.int .i64 lk) ∧ W.cell? ⟨g, o + fr, none⟩ = some (.int .i64 lf)) (by kernel_rfl) ⟨ck, cf⟩ (fun hH => ?_)
          refine wpAnyX_take (i := 0) (v := ?_) rfl (by kernel_rfl) (by kernel_rfl) (by kernel_rfl) (by kernel_rfl) (fun _ _ _ h => h) (Or.inl ⟨by rfl, ?_⟩) hH ?_
          rotate_left
          · intro W hS; (try dsimp only at hS); go_simp; all_goals (with_reducible rfl)
          try simp only [Act.put, List.setIfInBounds_toArray, List.set_cons_zero, List.set_cons_succ]
          refine wpAnyX_take (i := 1) (v := ?_) rfl (by kernel_rfl) (by kernel_rfl) (by kernel_rfl) (by kernel_rfl) (fun _ _ _ h => h) (Or.inl ⟨by rfl, ?_⟩) hH ?_
          rotate_left
          · intro W hS; (try dsimp only at hS); go_simp; all_goals (with_reducible rfl)
          try simp only [Act.put, List.setIfInBounds_toArray, List.set_cons_zero, List.set_cons_succ]
          refine wpAnyX_take (i := 2) (v := ?_) rfl (by kernel_rfl) (by kernel_rfl) (by kernel_rfl) (by kernel_rfl) (fun _ _ _ h => h) (Or.inl ⟨by rfl, ?_⟩) hH ?_
          rotate_left
          · intro W hS; (try dsimp only at hS); go_simp; all_goals (with_reducible rfl)
          try simp only [Act.put, List.setIfInBounds_toArray, List.set_cons_zero, List.set_cons_succ]
          refine wpAnyX_take (i := 3) (v := ?_) rfl (by kernel_rfl) (by kernel_rfl) (by kernel_rfl) (by kernel_rfl) (fun _ _ _ h => h) (Or.inl ⟨by rfl, ?_⟩) hH ?_
          rotate_left
          · intro W hS; (try dsimp only at hS); go_simp; all_goals (with_reducible rfl)
          try simp only [Act.put, List.setIfInBounds_toArray, List.set_cons_zero, List.set_cons_succ]
          refine wpAnyX_take (i := 4) (v := ?_) rfl (by kernel_rfl) (by kernel_rfl) (by kernel_rfl) (by kernel_rfl) (fun _ _ _ h => h) (Or.inl ⟨by rfl, ?_⟩) hH ?_
          rotate_left
          · intro W hS; (try dsimp only at hS); go_simp; all_goals (with_reducible rfl)
          try simp only [Act.put, List.setIfInBounds_toArray, List.set_cons_zero, List.set_cons_succ]
          refine wpAnyX_take (i := 5) (v := ?_) rfl (by kernel_rfl) (by kernel_rfl) (by kernel_rfl) (by kernel_rfl) (fun _ _ _ h => h) (Or.inl ⟨by rfl, ?_⟩) hH ?_
          rotate_left
          · intro W hS; (try dsimp only at hS); go_simp; all_goals (with_reducible rfl)
          try simp only [Act.put, List.setIfInBounds_toArray, List.set_cons_zero, List.set_cons_succ]
          refine wpAnyX_take (i := 6) (v := ?_) rfl (by kernel_rfl) (by kernel_rfl) (by kernel_rfl) (by kernel_rfl) (fun _ _ _ h => h) (Or.inl ⟨by rfl, ?_⟩) hH ?_
          rotate_left
          · intro W hS; (try dsimp only at hS); go_simp; all_goals (with_reducible rfl)
          try simp only [Act.put, List.setIfInBounds_toArray, List.set_cons_zero, List.set_cons_succ]
          refine wpAnyX_take (i := 7) (v := ?_) rfl (by kernel_rfl) (by kernel_rfl) (by kernel_rfl) (by kernel_rfl) (fun _ _ _ h => h) (Or.inl ⟨by rfl, ?_⟩) hH ?_
          rotate_left
          · intro W hS; (try dsimp only at hS); go_simp; all_goals (with_reducible rfl)
          try simp only [Act.put, List.setIfInBounds_toArray, List.set_cons_zero, List.set_cons_succ]
          refine wpAnyX_take (i := 8) (v := ?_) rfl (by kernel_rfl) (by kernel_rfl) (by kernel_rfl) (by kernel_rfl) (fun _ _ _ h => h) (Or.inl ⟨by rfl, ?_⟩) hH ?_
          rotate_left
          · intro W hS; (try dsimp only at hS); go_simp; all_goals (with_reducible rfl)
          try simp only [Act.put, List.setIfInBounds_toArray, List.set_cons_zero, List.set_cons_succ]
          refine wpAnyX_take (i := 9) (v := ?_) rfl (by kernel_rfl) (by kernel_rfl) (by kernel_rfl) (by kernel_rfl) (fun _ _ _ h => h) (Or.inl ⟨by rfl, ?_⟩) hH ?_
          rotate_left
          · intro W hS; (try dsimp only at hS); go_simp; all_goals (with_reducible rfl)
          try simp only [Act.put, List.setIfInBounds_toArray, List.set_cons_zero, List.set_cons_succ]
          refine wpAnyX_take (i := 10) (v := ?_) rfl (by kernel_rfl) (by kernel_rfl) (by kernel_rfl) (by kernel_rfl) (fun _ _ _ h => h) (Or.inl ⟨by rfl, ?_⟩) hH ?_
          rotate_left
          · intro W hS; (try dsimp only at hS); go_simp; all_goals (with_reducible rfl)
          try simp only [Act.put, List.setIfInBounds_toArray, List.set_cons_zero, List.set_cons_succ]
          refine wpAnyX_take (i := 11) (v := ?_) rfl (by kernel_rfl) (by kernel_rfl) (by kernel_rfl) (by kernel_rfl) (fun _ _ _ h => h) (Or.inl ⟨by rfl, ?_⟩) hH ?_
          rotate_left
          · intro W hS; (try dsimp only at hS); go_simp; all_goals (with_reducible rfl)
          try simp only [Act.put, List.setIfInBounds_toArray, List.set_cons_zero, List.set_cons_succ]
          refine wpAnyX_take (i := 12) (v := ?_) rfl (by kernel_rfl) (by kernel_rfl) (by kernel_rfl) (by kernel_rfl) (fun _ _ _ h => h) (Or.inl ⟨by rfl, ?_⟩) hH ?_
          rotate_left
          · intro W hS; (try dsimp only at hS); go_simp; all_goals (with_reducible rfl)
          try simp only [Act.put, List.setIfInBounds_toArray, List.set_cons_zero, List.set_cons_succ]
          refine wpAnyX_take (i := 13) (v := ?_) rfl (by kernel_rfl) (by kernel_rfl) (by kernel_rfl) (by kernel_rfl) (fun _ _ _ h => h) (Or.inl ⟨by rfl, ?_⟩) hH ?_
          rotate_left
          · intro W hS; (try dsimp only at hS); go_simp; all_goals (with_reducible rfl)
          try simp only [Act.put, List.setIfInBounds_toArray, List.set_cons_zero, List.set_cons_succ]
          refine wpAnyX_take (i := 14) (v := ?_) rfl (by kernel_rfl) (by kernel_rfl) (by kernel_rfl) (by kernel_rfl) (fun _ _ _ h => h) (Or.inl ⟨by rfl, ?_⟩) hH ?_
          rotate_left
          · intro W hS; (try dsimp only at hS); go_simp; all_goals (with_reducible rfl)
          try simp only [Act.put, List.setIfInBounds_toArray, List.set_cons_zero, List.set_cons_succ]
          refine wpAnyX_done (by kernel_rfl) ?_
          clear hH ck cf
          go_wp2_with (first | (go_at_call 26; refine (Any.strconv_AppendInt_10 Tryd.laysAI w.heap.size TX.length ((k : Int) + 1 - fr) (by omega) (by omega) u3 (Lib.byteCells TX) _ (by exact HOWN.out) (by exact hsz) (by omega) (by exact fun w' hb => HTAB.out w' ((belDrewN HBEL.out 1).trans hb))).mono ?_; rintro e w5 ⟨v5, rfl, hown5, hbe5, hok5⟩; have HB5 : Hid (Below w.heap.size w w5) := (belDrewN HBEL.out 1).trans hbe5; have cf5 := (HB5.out.cell (p := ⟨g, o + fr, none⟩) hg2).trans cf0; have HO5 : Hid (w5.ownsRow w.heap.size 5 1 v5 (TX.length + (Lib.itoa ((k : Int) + 1 - fr)).length) (Lib.byteCells TX ++ Lib.byteCells (Lib.itoa ((k : Int) + 1 - fr)))) := hown5; have hs5 := HB5.out.size; clear hown5 hbe5 hok5) | (at_builtin; go_must (refine wpList_append_own _ rfl _ _ 57 rfl w.heap.size 5 i5 (.int .u8 0) 1 1 Tryd.underlying57 hi5 hz0 hz1 hz2 rfl (by decide) _ _ _ rfl (by exact HO5.out.alloc _) ⟨w5.heap.size, 0, none⟩ 1 1 [.int .u8 ((⟨#[77, 73, 68]⟩ : ByteArray)[lf].toNat : Int)] rfl rfl (by exact box_at w5 [.int .u8 ((⟨#[77, 73, 68]⟩ : ByteArray)[lf].toNat : Int)] 5 _ rfl) (int_oneCell _ _) (by unfold maxLen; omega) (by omega) (by simp; omega) ?_; intro v6 w6 hown6 hgrow6 _)))
          go_roundw
          case rel =>
            have e : rl L (k + 1) = (k + 1, (rl L k).2 ++ [(k + 1 - fr, lf)]) := by
              rw [rl, if_pos HEND.out, ← HFR.out, HLETT.out]
            refine ⟨k + 1, by omega, by go_num, ?_, ?_, ?_⟩
            · rw [e]; rfl
            · rw [e]
              simp only
              have e2 : Lib.byteCells (rtxt ((rl L k).2 ++ [(k + 1 - fr, lf)])) = Lib.byteCells TX ++ Lib.byteCells (Lib.itoa ((k : Int) + 1 - fr)) ++ [.int .u8 ((⟨#[77, 73, 68]⟩ : ByteArray)[lf].toNat : Int)] := by
                rw [rtxt_append, ← HTX.out, hidg, ltr_get lf (show lf < 3 by omega)]
                simp [Lib.byteCells]
              have e3 : (rtxt ((rl L k).2 ++ [(k + 1 - fr, lf)])).length = TX.length + (Lib.itoa ((k : Int) + 1 - fr)).length + 1 := by
                rw [rtxt_append, ← HTX.out, hidg]; simp; omega
              rw [e2, e3]
              exact hown6
            · exact ((HB5.out.alloc (by omega) _).grown hgrow6 (by simp; omega) (fun q hq => (HO5.out.lt q hq).1))
          case measure => simp [RowKit.intOf]; omega
        · have hk1I : ¬ (k : Int) + 1 < n := by omega
          clear hcond hend
          go_upto_region 5 with fail
          refine wp_region_X 15 (fun W => W.cell? ⟨g, o + fr, none⟩ = some (.int .i64 lf)) (by kernel_rfl) cf (fun hH => ?_)
          refine wpAnyX_take (i := 0) (v := ?_) rfl (by kernel_rfl) (by kernel_rfl) (by kernel_rfl) (by kernel_rfl) (fun _ _ _ h => h) (Or.inl ⟨by rfl, ?_⟩) hH ?_
          rotate_left
          · intro W hS; (try dsimp only at hS); go_simp; all_goals (with_reducible rfl)
          try simp only [Act.put, List.setIfInBounds_toArray, List.set_cons_zero, List.set_cons_succ]
          refine wpAnyX_take (i := 1) (v := ?_) rfl (by kernel_rfl) (by kernel_rfl) (by kernel_rfl) (by kernel_rfl) (fun _ _ _ h => h) (Or.inl ⟨by rfl, ?_⟩) hH ?_
          rotate_left
          · intro W hS; (try dsimp only at hS); go_simp; all_goals (with_reducible rfl)
          try simp only [Act.put, List.setIfInBounds_toArray, List.set_cons_zero, List.set_cons_succ]
          refine wpAnyX_take (i := 2) (v := ?_) rfl (by kernel_rfl) (by kernel_rfl) (by kernel_rfl) (by kernel_rfl) (fun _ _ _ h => h) (Or.inl ⟨by rfl, ?_⟩) hH ?_
          rotate_left
          · intro W hS; (try dsimp only at hS); go_simp; all_goals (with_reducible rfl)
          try simp only [Act.put, List.setIfInBounds_toArray, List.set_cons_zero, List.set_cons_succ]
          refine wpAnyX_take (i := 3) (v := ?_) rfl (by kernel_rfl) (by kernel_rfl) (by kernel_rfl) (by kernel_rfl) (fun _ _ _ h => h) (Or.inl ⟨by rfl, ?_⟩) hH ?_
          rotate_left
          · intro W hS; (try dsimp only at hS); go_simp; all_goals (with_reducible rfl)
          try simp only [Act.put, List.setIfInBounds_toArray, List.set_cons_zero, List.set_cons_succ]
          refine wpAnyX_take (i := 4) (v := ?_) rfl (by kernel_rfl) (by kernel_rfl) (by kernel_rfl) (by kernel_rfl) (fun _ _ _ h => h) (Or.inl ⟨by rfl, ?_⟩) hH ?_
          rotate_left
          · intro W hS; (try dsimp only at hS); go_simp; all_goals (with_reducible rfl)
          try simp only [Act.put, List.setIfInBounds_toArray, List.set_cons_zero, List.set_cons_succ]
          refine wpAnyX_take (i := 5) (v := undef) rfl (by kernel_rfl) (by kernel_rfl) (by kernel_rfl) (by kernel_rfl) (fun _ _ _ h => h) (Or.inr ⟨by rfl, rfl⟩) hH ?_
          try simp only [Act.put, List.setIfInBounds_toArray, List.set_cons_zero, List.set_cons_succ]
          refine wpAnyX_take (i := 6) (v := undef) rfl (by kernel_rfl) (by kernel_rfl) (by kernel_rfl) (by kernel_rfl) (fun _ _ _ h => h) (Or.inr ⟨by rfl, rfl⟩) hH ?_
          try simp only [Act.put, List.setIfInBounds_toArray, List.set_cons_zero, List.set_cons_succ]
          refine wpAnyX_take (i := 7) (v := undef) rfl (by kernel_rfl) (by kernel_rfl) (by kernel_rfl) (by kernel_rfl) (fun _ _ _ h => h) (Or.inr ⟨by rfl, rfl⟩) hH ?_
          try simp only [Act.put, List.setIfInBounds_toArray, List.set_cons_zero, List.set_cons_succ]
          refine wpAnyX_take (i := 8) (v := undef) rfl (by kernel_rfl) (by kernel_rfl) (by kernel_rfl) (by kernel_rfl) (fun _ _ _ h => h) (Or.inr ⟨by rfl, rfl⟩) hH ?_
          try simp only [Act.put, List.setIfInBounds_toArray, List.set_cons_zero, List.set_cons_succ]
          refine wpAnyX_take (i := 9) (v := undef) rfl (by kernel_rfl) (by kernel_rfl) (by kernel_rfl) (by kernel_rfl) (fun _ _ _ h => h) (Or.inr ⟨by rfl, rfl⟩) hH ?_
          try simp only [Act.put, List.setIfInBounds_toArray, List.set_cons_zero, List.set_cons_succ]
          refine wpAnyX_take (i := 10) (v := undef) rfl (by kernel_rfl) (by kernel_rfl) (by kernel_rfl) (by kernel_rfl) (fun _ _ _ h => h) (Or.inr ⟨by rfl, rfl⟩) hH ?_
          try simp only [Act.put, List.setIfInBounds_toArray, List.set_cons_zero, List.set_cons_succ]
          refine wpAnyX_take (i := 11) (v := undef) rfl (by kernel_rfl) (by kernel_rfl) (by kernel_rfl) (by kernel_rfl) (fun _ _ _ h => h) (Or.inr ⟨by rfl, rfl⟩) hH ?_
          try simp only [Act.put, List.setIfInBounds_toArray, List.set_cons_zero, List.set_cons_succ]
          refine wpAnyX_take (i := 12) (v := undef) rfl (by kernel_rfl) (by kernel_rfl) (by kernel_rfl) (by kernel_rfl) (fun _ _ _ h => h) (Or.inr ⟨by rfl, rfl⟩) hH ?_
          try simp only [Act.put, List.setIfInBounds_toArray, List.set_cons_zero, List.set_cons_succ]
          refine wpAnyX_take (i := 13) (v := undef) rfl (by kernel_rfl) (by kernel_rfl) (by kernel_rfl) (by kernel_rfl) (fun _ _ _ h => h) (Or.inr ⟨by rfl, rfl⟩) hH ?_
          try simp only [Act.put, List.setIfInBounds_toArray, List.set_cons_zero, List.set_cons_succ]
          refine wpAnyX_take (i := 14) (v := ?_) rfl (by kernel_rfl) (by kernel_rfl) (by kernel_rfl) (by kernel_rfl) (fun _ _ _ h => h) (Or.inl ⟨by rfl, ?_⟩) hH ?_
          rotate_left
          · intro W hS; (try dsimp only at hS); go_simp; all_goals (with_reducible rfl)
          try simp only [Act.put, List.setIfInBounds_toArray, List.set_cons_zero, List.set_cons_succ]
          refine wpAnyX_done (by kernel_rfl) ?_
          clear hH cf
          go_wp2_with (first | (go_at_call 26; refine (Any.strconv_AppendInt_10 Tryd.laysAI w.heap.size TX.length ((k : Int) + 1 - fr) (by omega) (by omega) u3 (Lib.byteCells TX) _ (by exact HOWN.out) (by exact hsz) (by omega) (by exact fun w' hb => HTAB.out w' ((belDrewN HBEL.out 1).trans hb))).mono ?_; rintro e w5 ⟨v5, rfl, hown5, hbe5, hok5⟩; have HB5 : Hid (Below w.heap.size w w5) := (belDrewN HBEL.out 1).trans hbe5; have cf5 := (HB5.out.cell (p := ⟨g, o + fr, none⟩) hg2).trans cf0; have HO5 : Hid (w5.ownsRow w.heap.size 5 1 v5 (TX.length + (Lib.itoa ((k : Int) + 1 - fr)).length) (Lib.byteCells TX ++ Lib.byteCells (Lib.itoa ((k : Int) + 1 - fr)))) := hown5; have hs5 := HB5.out.size; clear hown5 hbe5 hok5) | (at_builtin; go_must (refine wpList_append_own _ rfl _ _ 57 rfl w.heap.size 5 i5 (.int .u8 0) 1 1 Tryd.underlying57 hi5 hz0 hz1 hz2 rfl (by decide) _ _ _ rfl (by exact HO5.out.alloc _) ⟨w5.heap.size, 0, none⟩ 1 1 [.int .u8 ((⟨#[77, 73, 68]⟩ : ByteArray)[lf].toNat : Int)] rfl rfl (by exact box_at w5 [.int .u8 ((⟨#[77, 73, 68]⟩ : ByteArray)[lf].toNat : Int)] 5 _ rfl) (int_oneCell _ _) (by unfold maxLen; omega) (by omega) (by simp; omega) ?_; intro v6 w6 hown6 hgrow6 _)))
          go_roundw
          case rel =>
            have e : rl L (k + 1) = (k + 1, (rl L k).2 ++ [(k + 1 - fr, lf)]) := by
              rw [rl, if_pos HEND.out, ← HFR.out, HLETT.out]
            refine ⟨k + 1, by omega, by go_num, ?_, ?_, ?_⟩
            · rw [e]; rfl
            · rw [e]
              simp only
              have e2 : Lib.byteCells (rtxt ((rl L k).2 ++ [(k + 1 - fr, lf)])) = Lib.byteCells TX ++ Lib.byteCells (Lib.itoa ((k : Int) + 1 - fr)) ++ [.int .u8 ((⟨#[77, 73, 68]⟩ : ByteArray)[lf].toNat : Int)] := by
                rw [rtxt_append, ← HTX.out, hidg, ltr_get lf (show lf < 3 by omega)]
                simp [Lib.byteCells]
              have e3 : (rtxt ((rl L k).2 ++ [(k + 1 - fr, lf)])).length = TX.length + (Lib.itoa ((k : Int) + 1 - fr)).length + 1 := by
                rw [rtxt_append, ← HTX.out, hidg]; simp; omega
              rw [e2, e3]
              exact hown6
            · exact ((HB5.out.alloc (by omega) _).grown hgrow6 (by simp; omega) (fun q hq => (HO5.out.lt q hq).1))
          case measure => simp [RowKit.intOf]; omega
      · have hc := hcond.2 hend
        rw [HN.out] at hc
        obtain ⟨hk1, hk2⟩ := hc
        have ck := HO.out.cell (numV_get L (k + 1) (by rw [HN.out]; exact hk1))
        rw [hk2] at ck
        rw [← HBEL.out.cell (p := ⟨g, o + (k + 1), none⟩) hg2] at ck
        have hk1I : (k : Int) + 1 < n := by omega
        have hkn : ((k : Int) + 1).toNat = k + 1 := by omega
        have h0k : (0 : Int) ≤ (k : Int) + 1 := by omega
        have HEND : Hid (¬ (k + 1 = L.length ∨ L.getD (k + 1) 9 ≠ L.getD k 9)) := hend
        clear hcond hk2 hend
        go_upto_region 5 with fail
        refine wp_region_X 15 (fun W => W.cell? ⟨g, o + (k + 1), none⟩ = some (.int .i64 lf) ∧ W.cell? ⟨g, o + fr, none⟩ = some (.int .i64 lf)) (by kernel_rfl) ⟨ck, cf⟩ (fun hH => ?_)
        refine wpAnyX_take (i := 0) (v := ?_) rfl (by kernel_rfl) (by kernel_rfl) (by kernel_rfl) (by kernel_rfl) (fun _ _ _ h => h) (Or.inl ⟨by rfl, ?_⟩) hH ?_
        rotate_left
        · intro W hS; (try dsimp only at hS); go_simp; all_goals (with_reducible rfl)
        try simp only [Act.put, List.setIfInBounds_toArray, List.set_cons_zero, List.set_cons_succ]
        refine wpAnyX_take (i := 1) (v := ?_) rfl (by kernel_rfl) (by kernel_rfl) (by kernel_rfl) (by kernel_rfl) (fun _ _ _ h => h) (Or.inl ⟨by rfl, ?_⟩) hH ?_
        rotate_left
        · intro W hS; (try dsimp only at hS); go_simp; all_goals (with_reducible rfl)
        try simp only [Act.put, List.setIfInBounds_toArray, List.set_cons_zero, List.set_cons_succ]
        refine wpAnyX_take (i := 2) (v := ?_) rfl (by kernel_rfl) (by kernel_rfl) (by kernel_rfl) (by kernel_rfl) (fun _ _ _ h => h) (Or.inl ⟨by rfl, ?_⟩) hH ?_
        rotate_left
        · intro W hS; (try dsimp only at hS); go_simp; all_goals (with_reducible rfl)
        try simp only [Act.put, List.setIfInBounds_toArray, List.set_cons_zero, List.set_cons_succ]
        refine wpAnyX_take (i := 3) (v := ?_) rfl (by kernel_rfl) (by kernel_rfl) (by kernel_rfl) (by kernel_rfl) (fun _ _ _ h => h) (Or.inl ⟨by rfl, ?_⟩) hH ?_
        rotate_left
        · intro W hS; (try dsimp only at hS); go_simp; all_goals (with_reducible rfl)
        try simp only [Act.put, List.setIfInBounds_toArray, List.set_cons_zero, List.set_cons_succ]
        refine wpAnyX_take (i := 4) (v := ?_) rfl (by kernel_rfl) (by kernel_rfl) (by kernel_rfl) (by kernel_rfl) (fun _ _ _ h => h) (Or.inl ⟨by rfl, ?_⟩) hH ?_
        rotate_left
        · intro W hS; (try dsimp only at hS); go_simp; all_goals (with_reducible rfl)
        try simp only [Act.put, List.setIfInBounds_toArray, List.set_cons_zero, List.set_cons_succ]
        refine wpAnyX_take (i := 5) (v := ?_) rfl (by kernel_rfl) (by kernel_rfl) (by kernel_rfl) (by kernel_rfl) (fun _ _ _ h => h) (Or.inl ⟨by rfl, ?_⟩) hH ?_
        rotate_left
        · intro W hS; (try dsimp only at hS); go_simp; all_goals (with_reducible rfl)
        try simp only [Act.put, List.setIfInBounds_toArray, List.set_cons_zero, List.set_cons_succ]
        refine wpAnyX_take (i := 6) (v := ?_) rfl (by kernel_rfl) (by kernel_rfl) (by kernel_rfl) (by kernel_rfl) (fun _ _ _ h => h) (Or.inl ⟨by rfl, ?_⟩) hH ?_
        rotate_left
        · intro W hS; (try dsimp only at hS); go_simp; all_goals (with_reducible rfl)
        try simp only [Act.put, List.setIfInBounds_toArray, List.set_cons_zero, List.set_cons_succ]
        refine wpAnyX_take (i := 7) (v := ?_) rfl (by kernel_rfl) (by kernel_rfl) (by kernel_rfl) (by kernel_rfl) (fun _ _ _ h => h) (Or.inl ⟨by rfl, ?_⟩) hH ?_
        rotate_left
        · intro W hS; (try dsimp only at hS); go_simp; all_goals (with_reducible rfl)
        try simp only [Act.put, List.setIfInBounds_toArray, List.set_cons_zero, List.set_cons_succ]
        refine wpAnyX_take (i := 8) (v := ?_) rfl (by kernel_rfl) (by kernel_rfl) (by kernel_rfl) (by kernel_rfl) (fun _ _ _ h => h) (Or.inl ⟨by rfl, ?_⟩) hH ?_
        rotate_left
        · intro W hS; (try dsimp only at hS); go_simp; all_goals (with_reducible rfl)
        try simp only [Act.put, List.setIfInBounds_toArray, List.set_cons_zero, List.set_cons_succ]
        refine wpAnyX_take (i := 9) (v := ?_) rfl (by kernel_rfl) (by kernel_rfl) (by kernel_rfl) (by kernel_rfl) (fun _ _ _ h => h) (Or.inl ⟨by rfl, ?_⟩) hH ?_
        rotate_left
        · intro W hS; (try dsimp only at hS); go_simp; all_goals (with_reducible rfl)
        try simp only [Act.put, List.setIfInBounds_toArray, List.set_cons_zero, List.set_cons_succ]
        refine wpAnyX_take (i := 10) (v := ?_) rfl (by kernel_rfl) (by kernel_rfl) (by kernel_rfl) (by kernel_rfl) (fun _ _ _ h => h) (Or.inl ⟨by rfl, ?_⟩) hH ?_
        rotate_left
        · intro W hS; (try dsimp only at hS); go_simp; all_goals (with_reducible rfl)
        try simp only [Act.put, List.setIfInBounds_toArray, List.set_cons_zero, List.set_cons_succ]
        refine wpAnyX_take (i := 11) (v := ?_) rfl (by kernel_rfl) (by kernel_rfl) (by kernel_rfl) (by kernel_rfl) (fun _ _ _ h => h) (Or.inl ⟨by rfl, ?_⟩) hH ?_
        rotate_left
        · intro W hS; (try dsimp only at hS); go_simp; all_goals (with_reducible rfl)
        try simp only [Act.put, List.setIfInBounds_toArray, List.set_cons_zero, List.set_cons_succ]
        refine wpAnyX_take (i := 12) (v := ?_) rfl (by kernel_rfl) (by kernel_rfl) (by kernel_rfl) (by kernel_rfl) (fun _ _ _ h => h) (Or.inl ⟨by rfl, ?_⟩) hH ?_
        rotate_left
        · intro W hS; (try dsimp only at hS); go_simp; all_goals (with_reducible rfl)
        try simp only [Act.put, List.setIfInBounds_toArray, List.set_cons_zero, List.set_cons_succ]
        refine wpAnyX_take (i := 13) (v := ?_) rfl (by kernel_rfl) (by kernel_rfl) (by kernel_rfl) (by kernel_rfl) (fun _ _ _ h => h) (Or.inl ⟨by rfl, ?_⟩) hH ?_
        rotate_left
        · intro W hS; (try dsimp only at hS); go_simp; all_goals (with_reducible rfl)
        try simp only [Act.put, List.setIfInBounds_toArray, List.set_cons_zero, List.set_cons_succ]
        refine wpAnyX_take (i := 14) (v := ?_) rfl (by kernel_rfl) (by kernel_rfl) (by kernel_rfl) (by kernel_rfl) (fun _ _ _ h => h) (Or.inl ⟨by rfl, ?_⟩) hH ?_
        rotate_left
        · intro W hS; (try dsimp only at hS); go_simp; all_goals (with_reducible rfl)
        try simp only [Act.put, List.setIfInBounds_toArray, List.set_cons_zero, List.set_cons_succ]
        refine wpAnyX_done (by kernel_rfl) ?_
        clear hH ck cf
        go_wp2_with fail
        go_roundw
        case rel =>
          have e : rl L (k + 1) = rl L k := by rw [rl, if_neg HEND.out]
          refine ⟨k + 1, by omega, by go_num, ?_, ?_, belDrewN HBEL.out 1⟩
          · rw [e, HFR.out]
          · rw [e, ← HTX.out]; exact HOWN.out
        case measure => simp [RowKit.intOf]; omega
    · have hke : k = n := by omega
      subst hke
      have hcv := conv_bytes wr w.heap.size u3 TX HOWN.out
      have hnI : ¬ (k : Int) + 1 ≤ k := by omega
      go_wp2_with fail
      go_ret
      refine ⟨?_, HBEL.out⟩
      rw [HTX.out]
      rfl
end Go.Proofs.YtilcmkiihefkkaaDoor
