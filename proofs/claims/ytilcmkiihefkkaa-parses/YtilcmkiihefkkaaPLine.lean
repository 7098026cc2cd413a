import Derived.Test.YtilcmkiihefkkaaPBeg
set_option linter.unusedVariables false
set_option linter.unusedSimpArgs false
set_option maxRecDepth 100000
namespace Go.Proofs.Ytilcmkiihefkkaa
open Go.RowKit Go.Maps

/-- a block that is no row of bytes -/
def NotB (o : Obj) : Prop := ∀ cs, o ≠ .cells cs 5 (0, 0)

/-- while the bases of a line are gathered -/
def LI (w : World) (base B : Nat) (sv mv : Value) (bs : List UInt8) (x : ByteArray) (k : Nat) (wr : World) : Prop :=
  ∃ bv', wr.heap[B]? = some (.cells #[sv, mv, bv'] 74 (0, 0)) ∧ OwnR wr base 5 1 bv' (bs ++ x.data.toList.take k).length (Lib.byteCells (bs ++ x.data.toList.take k)) ∧
    (∀ q o, q ≠ B → NotB o → w.heap[q]? = some o → wr.heap[q]? = some o) ∧ Below base w wr ∧ base ≤ wr.heap.size

theorem enter38 (args : Array Value) (w : World) : (callFunc 54 args).run Try.prog w = .ok (.enter 54 args) w := by
  obtain ⟨c, hc⟩ : ∃ c, Try.f54.body = some c := ⟨_, rfl⟩
  exact enter_of Try.func54 (by kernel_rfl) hc args w

theorem LI_step (w : World) (base B : Nat) (sv mv : Value) (bs : List UInt8) (x : ByteArray) (hlB : base ≤ B) (hbs : bs.length + x.size ≤ 100000000) (k : Nat) (hk : k < x.size) (wr : World) (hn : 0 ≤ numb x[k]) (h : LI w base B sv mv bs x k wr) :
    Calls Try.prog 54 #[.pointer (some ⟨B, 0, none⟩), .int .i64 k, .int .i64 (numb x[k])] wr fun e w' => e = .returned (.tuple #[]) ∧ LI w base B sv mv bs x (k + 1) w' := by
  obtain ⟨bv, hB, ho, hkeep, hbel, hlow⟩ := h
  have hl := numb_lt x[k]
  have hlen := list_len x
  obtain ⟨m, hm⟩ : ∃ m : Nat, numb x[k] = m := ⟨(numb x[k]).toNat, by omega⟩
  rw [hm]
  have hlt : (bs ++ x.data.toList.take k).length ≤ 100000000 := by rw [List.length_append, List.length_take]; omega
  refine (pbase_any B base m _ k sv mv bv (bs ++ x.data.toList.take k) rfl wr (by omega) hB ho hlow (by omega)).mono ?_
  rintro e w' ⟨rfl, bv', ho', hB', hfr⟩
  have hfs := hfr.size
  have e1 : bs ++ x.data.toList.take (k + 1) = bs ++ x.data.toList.take k ++ [letB m] := by
    have hk' : k < x.data.toList.length := by omega
    rw [List.take_succ_eq_append_getElem hk', List.append_assoc]
    congr 2
    have : letB (numb x[k]).toNat = x[k] := letB_numb _ hn
    rw [hm] at this
    simp at this
    rw [this, Array.getElem_toList]
    rfl
  refine ⟨rfl, bv', hB', by rw [e1]; exact ho', ?_, ?_, by omega⟩
  · intro q o hqB hno hq
    have h1 := hkeep q o hqB hno hq
    rw [hfr.other q (lt_of_block h1) hqB (fun he => ?_)]
    · exact h1
    · rcases ho.2 with ⟨h, _⟩ | ⟨g, o2, cap, cur, h, _, h2, _⟩
      · rw [h] at he; simp [Value.ownBlock] at he
      · rw [h] at he
        simp only [Value.ownBlock, Option.some.injEq] at he
        subst he
        rw [h1] at h2
        exact hno cur (Option.some.inj h2)
  · have hbs := hbel.size
    exact hbel.trans ⟨hfr.os, hfr.tape, hfr.output, hfs, fun q hq => hfr.other q (by omega) (by omega) (fun he => by have := (ho.lt he).1; omega)⟩

theorem hasN_addB (A : List S2) (y : S2) (b : ByteArray) (s : ByteArray) : hasN (A ++ [⟨y.n, b⟩]) s ↔ hasN (A ++ [y]) s := by
  unfold hasN
  constructor
  · rintro ⟨z, hz, hzs⟩
    rw [List.mem_append] at hz
    rcases hz with hz | hz
    · exact ⟨z, by simp [hz], hzs⟩
    · simp at hz; subst hz; exact ⟨y, by simp, hzs⟩
  · rintro ⟨z, hz, hzs⟩
    rw [List.mem_append] at hz
    rcases hz with hz | hz
    · exact ⟨z, by simp [hz], hzs⟩
    · simp at hz; subst hz; exact ⟨⟨z.n, b⟩, by simp, hzs⟩

set_option maxHeartbeats 4000000 in
set_option maxRecDepth 100000 in
theorem line_any (base B Bm : Nat) (L : List S2) (sv bv : Value) (D : DataW Unit) (w : World) (x : ByteArray) (h : PrP base B Bm L sv bv D w) (hL : L.length ≤ 100000000) (hb : (lastB L).length ≤ 90000000) (hxz : x.size ≤ 8000) :
    Calls Try.prog 34 #[.pointer (some ⟨B, 0, none⟩), .string x] w fun e w' => e = .returned (.int .i64 (pstep L x).1) ∧ ((pstep L x).1 = 0 → ∃ sv' bv' D', PrP base B Bm (pstep L x).2 sv' bv' D' w') ∧ Below base w w' := by
  have HPR : Hid (PrP base B Bm L sv bv D w) := h
  have htz := tl_size x
  have c0 : w.cell? ⟨B, 0, none⟩ = some sv := cell_at h.par rfl
  obtain ⟨ao, sc, hsv⟩ := h.seqs.form
  subst hsv
  clear h
  go_enter Try.func34, Try.ntmps34
  go_wp2_with fail
  refine (scutPrefix_any x w hxz).mono ?_
  rintro e w1 ⟨h1, rfl⟩
  rcases h1 with ⟨hbg, rfl⟩ | ⟨hbg, rfl⟩
  · have HBG : Hid (begins x) := hbg
    clear hbg
    go_wp2_with fail
    refine (begin_any base B Bm L _ bv D _ (tl x) HPR.out hL (by omega) (by omega)).mono ?_
    rintro e w2 ⟨h2, hb2⟩
    rcases h2 with ⟨hnm, rfl⟩ | ⟨hnm, hhs, rfl⟩ | ⟨hnm, hhs, rfl, hex⟩
    · have HP : Hid (pstep L x = (4, [])) := pstep_name HBG.out hnm
      clear hnm
      go_wp2
      go_ret
      rw [HP.out]
      exact ⟨rfl, fun h => absurd h (by decide), hb2⟩
    · have HP : Hid (pstep L x = (5, [])) := pstep_twice HBG.out hnm hhs
      clear hnm hhs
      go_wp2
      go_ret
      rw [HP.out]
      exact ⟨rfl, fun h => absurd h (by decide), hb2⟩
    · have HP : Hid (pstep L x = (0, L ++ [⟨tl x, ⟨#[]⟩⟩])) := pstep_begin HBG.out hnm hhs
      have HEX : Hid (∃ sv' bv' D', PrP base B Bm (L ++ [⟨tl x, ⟨#[]⟩⟩]) sv' bv' D' w2) := hex
      clear hnm hhs hex
      go_wp2
      go_ret
      rw [HP.out]
      exact ⟨rfl, fun _ => HEX.out, hb2⟩
  · have HBG : Hid (¬ begins x) := hbg
    clear hbg
    by_cases hn0 : L = []
    · have HP : Hid (pstep L x = (3, [])) := pstep_line HBG.out hn0
      subst hn0
      go_wp2
      go_ret
      rw [HP.out]
      exact ⟨rfl, fun h => absurd h (by decide), Below.refl _ _⟩
    · have HNE : Hid (L ≠ []) := hn0
      have hl0 : ((L.length : Int) == 0) = false := by
        rw [beq_eq_false_iff_ne]
        intro h
        exact hn0 (List.eq_nil_of_length_eq_zero (by omega))
      clear hn0
      go_wp2_with fail
      refine (eachBase_any 54 enter38 _ x _ (by omega) (LI w1 base B (.slice ao L.length sc) (.map (some Bm)) (lastB L) x) (fun k hk wr hn h => LI_step w1 base B _ _ (lastB L) x HPR.out.lowB (by omega) k hk wr hn h) ?_).mono ?_
      · refine ⟨bv, HPR.out.par, ?_, fun q o _ _ h => h, Below.refl _ _, HPR.out.low⟩
        rw [List.take_zero, List.append_nil]
        exact HPR.out.bases
      · rintro e w2 ⟨k, hk, ⟨bv', hB', ho', hkeep, hbel, hlow⟩, hgd, hend⟩
        rcases hend with ⟨rfl, rfl⟩ | ⟨hk', hneg, rfl⟩
        · have hgood : good x := fun j hj => hgd j hj hj
          have HP : Hid (pstep L x = (0, addB L x)) := pstep_bases HBG.out HNE.out hgood
          have HX : Hid (PrP base B Bm (addB L x) (.slice ao L.length sc) bv' D w2) := by
            obtain ⟨A, y, hAy⟩ := snoc_of HNE.out
            have hP := HPR.out
            rw [hAy] at hP ho' hB' ⊢
            rw [addB_snoc]
            have hkeepO : ∀ v n xs e sz, e ≠ 5 → e ≠ 74 → OwnR w1 base e sz v n xs → OwnR w2 base e sz v n xs := fun v n xs e sz h5 h60 ho => by
              refine ho.other (fun g hg hlt => ?_)
              rcases ho.2 with ⟨h, _⟩ | ⟨g2, o2, cap, cur, h, _, h2, _⟩
              · rw [h] at hg; simp [Value.ownBlock] at hg
              · rw [h] at hg
                simp only [Value.ownBlock, Option.some.injEq] at hg
                subst hg
                rw [hkeep g2 _ (fun e' => by subst e'; rw [hP.par] at h2; simp at h2; exact h60 h2.2.symm) (fun cs he => by simp at he; exact h5 he.2) h2, h2]
            have hsq := hkeepO _ _ _ _ _ (by decide) (by decide) hP.seqs
            refine ⟨hB', ?_, ?_, ?_, ?_, hlow, hP.lowB, hP.lowM⟩
            · rw [openL_snoc] at hsq ⊢
              simp only [List.length_append, List.length_cons, List.length_nil] at hsq ⊢
              exact hsq
            · rw [lastB_snoc] at ho' ⊢
              have e1 : (y.b ++ x).data.toList = y.b.data.toList ++ x.data.toList.take x.size := by
                rw [ByteArray.data_append, Array.toList_append, List.take_of_length_le (by rw [list_len]; exact Nat.le_refl _)]
              show OwnR w2 base 5 1 bv' (y.b ++ x).data.toList.length (Lib.byteCells (y.b ++ x).data.toList)
              rw [e1]
              exact ho'
            · have hm := hP.map
              rw [List.length_append] at hm ⊢
              obtain ⟨es, clock, h1, h2⟩ := hm
              exact ⟨es, clock, hkeep Bm _ (fun e => ownsMap_ne hP.map hP.par e.symm) (fun cs he => by simp at he) h1, h2⟩
            · intro s
              rw [hP.has s]
              exact (hasN_addB A y _ s).symm
          clear hgood hgd ho' hkeep hB'
          go_wp2
          go_ret
          rw [HP.out]
          exact ⟨rfl, fun _ => ⟨_, _, _, HX.out⟩, hbel⟩
        · have HP : Hid (pstep L x = (2, [])) := pstep_byte HBG.out HNE.out (fun h => absurd (h k hk') (by omega))
          clear hgd ho' hkeep hB' hneg
          go_wp2
          go_ret
          rw [HP.out]
          exact ⟨rfl, fun h => absurd h (by decide), hbel⟩

end Go.Proofs.Ytilcmkiihefkkaa
