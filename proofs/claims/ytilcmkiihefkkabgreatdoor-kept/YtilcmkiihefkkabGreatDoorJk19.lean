import Derived.Test.YtilcmkiihefkkabGreatDoorJk18
section
set_option linter.unusedVariables false
set_option linter.unusedSimpArgs false
set_option maxRecDepth 100000
namespace Go.Proofs.YtilcmkiihefkkabGreatDoor.Mn
open Go.RowKit Go.Maps
/-- a block that is no row of bytes -/
def NotB (o : Obj) : Prop := ∀ cs, o ≠ .cells cs 5 (0, 0)
/-- while the bases of a line are gathered -/
def LI (w : World) (base B : Nat) (sv mv : Value) (bs : List UInt8) (x : ByteArray) (k : Nat) (wr : World) : Prop :=
  ∃ bv', wr.heap[B]? = some (.cells #[sv, mv, bv'] 81 (0, 0)) ∧ OwnR wr base 5 1 bv' (bs ++ x.data.toList.take k).length (Lib.byteCells (bs ++ x.data.toList.take k)) ∧
    (∀ q o, q ≠ B → NotB o → w.heap[q]? = some o → wr.heap[q]? = some o) ∧ Below base w wr ∧ base ≤ wr.heap.size
theorem enter38 (args : Array Value) (w : World) : (callFunc 51 args).run Tryz.prog w = .ok (.enter 51 args) w := by
  obtain ⟨c, hc⟩ : ∃ c, Tryz.f51.body = some c := ⟨_, rfl⟩
  exact enter_of Tryz.func51 (by kernel_rfl) hc args w
theorem LI_step (w : World) (base B : Nat) (sv mv : Value) (bs : List UInt8) (x : ByteArray) (hlB : base ≤ B) (hbs : bs.length + x.size ≤ 100000000) (k : Nat) (hk : k < x.size) (wr : World) (hn : 0 ≤ numb x[k]) (h : LI w base B sv mv bs x k wr) :
    Calls Tryz.prog 51 #[.pointer (some ⟨B, 0, none⟩), .int .i64 k, .int .i64 (numb x[k])] wr fun e w' => e = .returned (.tuple #[]) ∧ LI w base B sv mv bs x (k + 1) w' := by
  obtain ⟨bv, hB, ho, hkeep, hbel, hlow⟩ := h
  have hl := numb_lt x[k]
  have hlen := list_len x
  obtain ⟨m, hm⟩ : ∃ m : Nat, numb x[k] = m := ⟨(numb x[k]).toNat, by omega⟩
  rw [hm]
  have hlt : (bs ++ x.data.toList.take k).length ≤ 100000000 := by rw [List.length_append, List.length_take]; omega
  refine (pbase_any B base m _ k sv mv bv (bs ++ x.data.toList.take k) rfl wr (by omega) hB ho hlow (by omega)).mono ?_
  rintro e w' ⟨rfl, bv', ho', hB', hfr⟩
  have hfs := hfr.size
  have e1 : bs ++ x.data.toList.take (k + 1) = bs ++ x.data.toList.take k ++ [letB m] := by
    have hk' : k < x.data.toList.length := by omega
    rw [List.take_succ_eq_append_getElem hk', List.append_assoc]
    congr 2
    have : letB (numb x[k]).toNat = x[k] := letB_numb _ hn
    rw [hm] at this
    simp at this
    rw [this, Array.getElem_toList]
    rfl
  refine ⟨rfl, bv', hB', by rw [e1]; exact ho', ?_, ?_, by omega⟩
  · intro q o hqB hno hq
    have h1 := hkeep q o hqB hno hq
    rw [hfr.other q (lt_of_block h1) hqB (fun he => ?_)]
    · exact h1
    · rcases ho.2 with ⟨h, _⟩ | ⟨g, o2, cap, cur, h, _, h2, _⟩
      · rw [h] at he; simp [Value.ownBlock] at he
      · rw [h] at he
        simp only [Value.ownBlock, Option.some.injEq] at he
        subst he
        rw [h1] at h2
        exact hno cur (Option.some.inj h2)
  · have hbs := hbel.size
    exact hbel.trans ⟨hfr.os, hfr.tape, hfr.output, hfs, fun q hq => hfr.other q (by omega) (by omega) (fun he => by have := (ho.lt he).1; omega)⟩
theorem hasN_addB (A : List S2) (y : S2) (b : ByteArray) (s : ByteArray) : hasN (A ++ [⟨y.n, b⟩]) s ↔ hasN (A ++ [y]) s := by
  unfold hasN
  constructor
  · rintro ⟨z, hz, hzs⟩
    rw [List.mem_append] at hz
    rcases hz with hz | hz
    · exact ⟨z, by simp [hz], hzs⟩
    · simp at hz; subst hz; exact ⟨y, by simp, hzs⟩
  · rintro ⟨z, hz, hzs⟩
    rw [List.mem_append] at hz
    rcases hz with hz | hz
    · exact ⟨z, by simp [hz], hzs⟩
    · simp at hz; subst hz; exact ⟨⟨z.n, b⟩, by simp, hzs⟩
set_option maxHeartbeats 4000000 in
set_option maxRecDepth 100000 in
theorem line_any (base B Bm : Nat) (L : List S2) (sv bv : Value) (D : DataW Unit) (w : World) (x : ByteArray) (h : PrP base B Bm L sv bv D w) (hL : L.length ≤ 100000000) (hb : (lastB L).length ≤ 90000000) (hxz : x.size ≤ 8000) :
    Calls Tryz.prog 31 #[.pointer (some ⟨B, 0, none⟩), .string x] w fun e w' => e = .returned (.int .i64 (pstep L x).1) ∧ ((pstep L x).1 = 0 → ∃ sv' bv' D', PrP base B Bm (pstep L x).2 sv' bv' D' w') ∧ Below base w w' := by
  have HPR : Hid (PrP base B Bm L sv bv D w) := h
  have htz := tl_size x
  have c0 : w.cell? ⟨B, 0, none⟩ = some sv := cell_at h.par rfl
  obtain ⟨ao, sc, hsv⟩ := h.seqs.form
  subst hsv
  clear h
  go_enter Tryz.func31, Tryz.ntmps31
  go_wp2_with fail
  refine (scutPrefix_any x w hxz).mono ?_
  rintro e w1 ⟨h1, rfl⟩
  rcases h1 with ⟨hbg, rfl⟩ | ⟨hbg, rfl⟩
  · have HBG : Hid (begins x) := hbg
    clear hbg
    go_wp2_with fail
    refine (begin_any base B Bm L _ bv D _ (tl x) HPR.out hL (by omega) (by omega)).mono ?_
    rintro e w2 ⟨h2, hb2⟩
    rcases h2 with ⟨hnm, rfl⟩ | ⟨hnm, hhs, rfl⟩ | ⟨hnm, hhs, rfl, hex⟩
    · have HP : Hid (pstep L x = (4, [])) := pstep_name HBG.out hnm
      clear hnm
      go_wp2
      go_ret
      rw [HP.out]
      exact ⟨rfl, fun h => absurd h (by decide), hb2⟩
    · have HP : Hid (pstep L x = (5, [])) := pstep_twice HBG.out hnm hhs
      clear hnm hhs
      go_wp2
      go_ret
      rw [HP.out]
      exact ⟨rfl, fun h => absurd h (by decide), hb2⟩
    · have HP : Hid (pstep L x = (0, L ++ [⟨tl x, ⟨#[]⟩⟩])) := pstep_begin HBG.out hnm hhs
      have HEX : Hid (∃ sv' bv' D', PrP base B Bm (L ++ [⟨tl x, ⟨#[]⟩⟩]) sv' bv' D' w2) := hex
      clear hnm hhs hex
      go_wp2
      go_ret
      rw [HP.out]
      exact ⟨rfl, fun _ => HEX.out, hb2⟩
  · have HBG : Hid (¬ begins x) := hbg
    clear hbg
    by_cases hn0 : L = []
    · have HP : Hid (pstep L x = (3, [])) := pstep_line HBG.out hn0
      subst hn0
      go_wp2
      go_ret
      rw [HP.out]
      exact ⟨rfl, fun h => absurd h (by decide), Below.refl _ _⟩
    · have HNE : Hid (L ≠ []) := hn0
      have hl0 : ((L.length : Int) == 0) = false := by
        rw [beq_eq_false_iff_ne]
        intro h
        exact hn0 (List.eq_nil_of_length_eq_zero (by omega))
      clear hn0
      go_wp2_with fail
      refine (eachBase_any 51 enter38 _ x _ (by omega) (LI w1 base B (.slice ao L.length sc) (.map (some Bm)) (lastB L) x) (fun k hk wr hn h => LI_step w1 base B _ _ (lastB L) x HPR.out.lowB (by omega) k hk wr hn h) ?_).mono ?_
      · refine ⟨bv, HPR.out.par, ?_, fun q o _ _ h => h, Below.refl _ _, HPR.out.low⟩
        rw [List.take_zero, List.append_nil]
        exact HPR.out.bases
      · rintro e w2 ⟨k, hk, ⟨bv', hB', ho', hkeep, hbel, hlow⟩, hgd, hend⟩
        rcases hend with ⟨rfl, rfl⟩ | ⟨hk', hneg, rfl⟩
        · have hgood : good x := fun j hj => hgd j hj hj
          have HP : Hid (pstep L x = (0, addB L x)) := pstep_bases HBG.out HNE.out hgood
          have HX : Hid (PrP base B Bm (addB L x) (.slice ao L.length sc) bv' D w2) := by
            obtain ⟨A, y, hAy⟩ := snoc_of HNE.out
            have hP := HPR.out
            rw [hAy] at hP ho' hB' ⊢
            rw [addB_snoc]
            have hkeepO : ∀ v n xs e sz, e ≠ 5 → e ≠ 81 → OwnR w1 base e sz v n xs → OwnR w2 base e sz v n xs := fun v n xs e sz h5 h60 ho => by
              refine ho.other (fun g hg hlt => ?_)
              rcases ho.2 with ⟨h, _⟩ | ⟨g2, o2, cap, cur, h, _, h2, _⟩
              · rw [h] at hg; simp [Value.ownBlock] at hg
              · rw [h] at hg
                simp only [Value.ownBlock, Option.some.injEq] at hg
                subst hg
                rw [hkeep g2 _ (fun e' => by subst e'; rw [hP.par] at h2; simp at h2; exact h60 h2.2.symm) (fun cs he => by simp at he; exact h5 he.2) h2, h2]
            have hsq := hkeepO _ _ _ _ _ (by decide) (by decide) hP.seqs
            refine ⟨hB', ?_, ?_, ?_, ?_, hlow, hP.lowB, hP.lowM⟩
            · rw [openL_snoc] at hsq ⊢
              simp only [List.length_append, List.length_cons, List.length_nil] at hsq ⊢
              exact hsq
            · rw [lastB_snoc] at ho' ⊢
              have e1 : (y.b ++ x).data.toList = y.b.data.toList ++ x.data.toList.take x.size := by
                rw [ByteArray.data_append, Array.toList_append, List.take_of_length_le (by rw [list_len]; exact Nat.le_refl _)]
              show OwnR w2 base 5 1 bv' (y.b ++ x).data.toList.length (Lib.byteCells (y.b ++ x).data.toList)
              rw [e1]
              exact ho'
            · have hm := hP.map
              rw [List.length_append] at hm ⊢
              obtain ⟨es, clock, h1, h2⟩ := hm
              exact ⟨es, clock, hkeep Bm _ (fun e => ownsMap_ne hP.map hP.par e.symm) (fun cs he => by simp at he) h1, h2⟩
            · intro s
              rw [hP.has s]
              exact (hasN_addB A y _ s).symm
          clear hgood hgd ho' hkeep hB'
          go_wp2
          go_ret
          rw [HP.out]
          exact ⟨rfl, fun _ => ⟨_, _, _, HX.out⟩, hbel⟩
        · have HP : Hid (pstep L x = (2, [])) := pstep_byte HBG.out HNE.out (fun h => absurd (h k hk') (by omega))
          clear hgd ho' hkeep hB' hneg
          go_wp2
          go_ret
          rw [HP.out]
          exact ⟨rfl, fun h => absurd h (by decide), hbel⟩
end Go.Proofs.YtilcmkiihefkkabGreatDoor.Mn
end
section
set_option linter.unusedVariables false
set_option linter.unusedSimpArgs false
set_option maxRecDepth 100000
namespace Go.Proofs.YtilcmkiihefkkabGreatDoor.Mn
open Go.RowKit Go.Maps
/-- how long a text is -/
def szOf : Value → Nat
  | .string s => s.size
  | _ => 0
theorem PrP.drew {base B Bm : Nat} {L : List S2} {sv bv : Value} {D : DataW Unit} {w : World} (h : PrP base B Bm L sv bv D w) (n : Nat) : PrP base B Bm L sv bv D (w.drewN n) :=
  ⟨h.par, h.seqs.other (fun _ _ _ => rfl), h.bases.other (fun _ _ _ => rfl), ownsMap_block h.map rfl, h.has, h.low, h.lowB, h.lowM⟩
theorem pstep_grow (L : List S2) (x : ByteArray) (h : (pstep L x).1 = 0) : (pstep L x).2.length ≤ L.length + 1 ∧ (lastB (pstep L x).2).length ≤ (lastB L).length + x.size := by
  by_cases hb : begins x
  · by_cases hn : nameOK (tl x)
    · by_cases hh : hasN L (tl x)
      · rw [pstep_twice hb hn hh] at h; exact absurd h (by decide)
      · rw [pstep_begin hb hn hh]
        refine ⟨by simp, ?_⟩
        show (lastB (L ++ [_])).length ≤ _
        rw [lastB_snoc]
        exact Nat.zero_le _
    · rw [pstep_name hb hn] at h; exact absurd h (by decide)
  · by_cases hL : L = []
    · rw [pstep_line hb hL] at h; exact absurd h (by decide)
    · by_cases hg : good x
      · rw [pstep_bases hb hL hg]
        refine ⟨by show (addB L x).length ≤ _; rw [addB_length]; omega, ?_⟩
        obtain ⟨A, y, rfl⟩ := snoc_of hL
        show (lastB (addB (A ++ [y]) x)).length ≤ _
        rw [addB_snoc, lastB_snoc, lastB_snoc, list_len, list_len, ByteArray.size_append]
        exact Nat.le_refl _
      · rw [pstep_byte hb hL hg] at h; exact absurd h (by decide)
theorem parseL_nil : ∀ (l : List ByteArray) (i : Nat) (L : List S2), (parseL i L l).2.1 ≠ 0 → (parseL i L l).1 = []
  | [], i, L, h => by rw [parseL] at h; exact absurd rfl h
  | x :: r, i, L, h => by
    rw [parseL] at h ⊢
    split
    · rename_i h0
      rw [if_pos h0] at h
      exact parseL_nil r _ _ h
    · rfl
theorem parseL_zero : ∀ (l : List ByteArray) (i : Nat) (L : List S2), (parseL i L l).2.1 = 0 → (parseL i L l).2.2 = 0
  | [], i, L, h => by rw [parseL]
  | x :: r, i, L, h => by
    rw [parseL] at h ⊢
    split
    · rename_i h0
      rw [if_pos h0] at h
      exact parseL_zero r _ _ h
    · rename_i h0
      rw [if_neg h0] at h
      exact absurd h h0
theorem linesB_nil : linesB ⟨#[]⟩ = [] := by simp [linesB, linesA]
theorem size_zero {s : ByteArray} (h : s.size = 0) : s = ⟨#[]⟩ := by
  cases s with
  | mk d => have : d.size = 0 := h; simp at this; subst this; rfl
set_option maxRecDepth 100000 in
set_option maxHeartbeats 2000000 in
theorem eachLine_any (base B Bm : Nat) (s : ByteArray) (w : World) (hs : s.size ≤ 8000) (sv bv : Value) (D : DataW Unit) (h : PrP base B Bm [] sv bv D w) (R : List S2 × Nat × Nat) (hR : parseL 0 [] (linesB s) = R) :
    Calls Tryz.prog 30 #[.string s, .func (.func 31) #[.pointer (some ⟨B, 0, none⟩)] #[]] w fun e w' => e = .returned (.tuple #[.int .i64 R.2.1, .int .i64 R.2.2]) ∧ (R.2.1 = 0 → ∃ sv bv D, PrP base B Bm R.1 sv bv D w' ∧ R.1.length ≤ 8000 ∧ (lastB R.1).length ≤ 90000000) ∧ Below base w w' := by
  have HP0 : Hid (PrP base B Bm [] sv bv D w) := h
  have HR : Hid (parseL 0 [] (linesB s) = R) := hR
  clear h hR
  go_enter Tryz.func30, Tryz.ntmps30
  go_wp2
  go_loopw [0, 6] (fun x i wx => ∃ (k : Nat) (rest : ByteArray) (L : List S2) (sv bv : Value) (D : DataW Unit), x = .string rest ∧ i = .int .i64 k ∧ k + rest.size ≤ s.size ∧ L.length ≤ k ∧ (lastB L).length ≤ 8000 * k ∧ PrP base B Bm L sv bv D wx ∧ parseL k L (linesB rest) = R ∧ Below base w wx) (fun x _ _ => szOf x)
  case atStart => exact ⟨0, s, [], sv, bv, D, rfl, rfl, by omega, Nat.zero_le _, Nat.zero_le _, HP0.out, HR.out, Below.refl _ _⟩
  case round =>
    obtain ⟨k, rest, L, sv, bv, D, rfl, rfl, hks, hLk, hlb, hpr, heq, hbel⟩ := hrel
    have HPR : Hid (PrP base B Bm L sv bv D wr) := hpr
    have HEQ : Hid (parseL k L (linesB rest) = R) := heq
    have HBL : Hid (Below base w wr) := hbel
    clear hpr heq hbel
    by_cases h0 : rest.size = 0
    · obtain rfl := size_zero h0
      have HP : Hid (R = (L, 0, 0)) := by
        show _ = _
        rw [← HEQ.out, linesB_nil, parseL]
      go_wp2
      go_ret2
      rw [HP.out]
      exact ⟨rfl, fun _ => ⟨sv, bv, D, HPR.out, by show L.length ≤ _; omega, by show (lastB L).length ≤ _; omega⟩, HBL.out⟩
    · have hne : (rest.toList == ([] : List UInt8)) = false := by
        rw [ByteArray.toList_eq]
        cases hl : rest.data.toList with
        | nil => have := list_len rest; rw [hl] at this; simp at this; omega
        | cons c r => rfl
      go_wp2_with fail
      refine (scut_any rest _ (by omega) h0).mono ?_
      rintro e w1 ⟨x, rest', f, rfl, hcut, m, rfl⟩
      obtain ⟨hc1, hc2, hc3⟩ := hcut
      have HCU : Hid (linesB rest = x :: linesB rest') := hc3
      clear hc3
      go_wp2_with fail
      refine (line_any base B Bm L sv bv D _ x (HPR.out.drew m) (by omega) (by omega) (by omega)).mono ?_
      rintro e w2 ⟨rfl, hex, hb2⟩
      have HB2 : Hid (Below base w w2) := HBL.out.trans ⟨hb2.os, hb2.tape, hb2.output, hb2.size, hb2.block⟩
      obtain ⟨E, hE⟩ : ∃ E, E = (pstep L x).1 := ⟨_, rfl⟩
      have HE : Hid (E = (pstep L x).1) := hE
      have HEX : Hid (E = 0 → ∃ sv' bv' D', PrP base B Bm (pstep L x).2 sv' bv' D' w2) := fun h => hex (by rw [← hE]; exact h)
      rw [← hE]
      clear hex hb2 hE
      by_cases hE0 : E = 0
      · have HG := pstep_grow L x (by rw [← HE.out, hE0])
        have HNX : Hid (parseL (k + 1) (pstep L x).2 (linesB rest') = R) := by
          show _ = _
          rw [← HEQ.out, HCU.out, parseL, if_pos (by rw [← HE.out, hE0])]
        obtain ⟨sv', bv', D', hp'⟩ := HEX.out hE0
        have HPX : Hid (PrP base B Bm (pstep L x).2 sv' bv' D' w2) := hp'
        have HGG : Hid ((pstep L x).2.length ≤ L.length + 1 ∧ (lastB (pstep L x).2).length ≤ (lastB L).length + x.size) := HG
        clear HG hp'
        subst hE0
        go_wp2
        go_roundw
        case rel =>
          exact ⟨k + 1, rest', (pstep L x).2, sv', bv', D', rfl, by go_num, by omega, by have := HGG.out.1; omega, by have := HGG.out.2; omega, HPX.out, HNX.out, HB2.out⟩
        case measure => simp [szOf]; omega
      · have HP : Hid (R = ([], E, k)) := by
          show _ = _
          rw [← HEQ.out, HCU.out, parseL, if_neg (by rw [← HE.out]; exact hE0), ← HE.out]
        go_wp2
        go_ret2
        rw [HP.out]
        exact ⟨rfl, fun h => absurd h hE0, HB2.out⟩
set_option maxRecDepth 100000 in
set_option maxHeartbeats 2000000 in
theorem parse_any (s : ByteArray) (w : World) (hs : s.size ≤ 140737488351232) :
    Calls Tryz.prog 16 #[.string s] w fun e w' => ∃ v, e = .returned (.tuple #[v, .int .i64 (parseR s).2.1, .int .i64 (parseR s).2.2]) ∧ OwnR w' w.heap.size 62 2 v (parseR s).1.length (qcells (parseR s).1) ∧ ((parseR s).2.1 ≠ 0 → v = .slice none 0 0) ∧ Below w.heap.size w w' := by
  by_cases h8 : 8000 < s.size
  · have HR : Hid (parseR s = ([], 1, 0)) := by show _ = _; unfold parseR; rw [if_pos h8]
    have c1 : (8000 : Int) < s.size := by omega
    go_enter Tryz.func16, Tryz.ntmps16
    go_wp2
    go_ret3
    rw [HR.out]
    exact ⟨_, rfl, OwnR.nil _ _ _ _, fun _ => rfl, Below.refl _ _⟩
  · have HR : Hid (parseL 0 [] (linesB s) = parseR s) := by show _ = _; unfold parseR; rw [if_neg h8]
    have hs8 : s.size ≤ 8000 := by omega
    have c1 : ¬ (8000 : Int) < s.size := by omega
    have hmm := run_makeMap (P := Tryz.prog) 79 w
    go_enter Tryz.func16, Tryz.ntmps16
    go_wp2_with fail
    have HPP : Hid (PrP w.heap.size (w.heap.size + 1) w.heap.size [] (.slice none 0 0) (.slice none 0 0) (.map []) ((w.alloc (.map #[] 0)).alloc (.cells #[.slice none 0 0, .map (some w.heap.size), .slice none 0 0] 81))) := by
      refine ⟨by simpa using heap_alloc_new (w.alloc (.map #[] 0)) _, OwnR.nil _ _ _ _, OwnR.nil _ _ _ _, (World.ownsMap_made w _ _ _).alloc _, fun x => ?_, by simp; omega, by omega, Nat.le_refl _⟩
      constructor
      · intro h; simp [Maps.has] at h
      · rintro ⟨_, h, _⟩; simp at h
    refine (eachLine_any w.heap.size (w.heap.size + 1) w.heap.size s _ hs8 _ _ _ HPP.out (parseR s) HR.out).mono ?_
    rintro e w2 ⟨rfl, hex, hb2⟩
    obtain ⟨L, F, K, hLFK⟩ : ∃ L F K, parseR s = (L, F, K) := ⟨_, _, _, rfl⟩
    have HPQ : Hid (parseR s = (L, F, K)) := hLFK
    rw [hLFK] at hex ⊢
    have HEX : Hid (F = 0 → ∃ sv bv D, PrP w.heap.size (w.heap.size + 1) w.heap.size L sv bv D w2 ∧ L.length ≤ 8000 ∧ (lastB L).length ≤ 90000000) := hex
    have HB2 : Hid (Below w.heap.size w w2) := by
      have h1 : Below w.heap.size w (w.alloc (.map #[] 0)) := (Below.refl _ w).alloc (Nat.le_refl _) _
      have h2 := h1.alloc h1.size (.cells #[.slice none 0 0, .map (some w.heap.size), .slice none 0 0] 81)
      exact h2.trans hb2
    clear hex hb2 hLFK HPP
    by_cases hF : F = 0
    · obtain ⟨sv, bv, D, hp, hl1, hl2⟩ := HEX.out hF
      subst hF
      have HP : Hid (PrP w.heap.size (w.heap.size + 1) w.heap.size L sv bv D w2) := hp
      clear hp
      go_wp2_with fail
      refine (finish_any w.heap.size (w.heap.size + 1) w.heap.size L sv bv D w2 HP.out (by omega) (by omega)).mono ?_
      rintro e w3 ⟨rfl, bv', hpar, hsq, hbq, hff⟩
      have c0 : w3.cell? ⟨w.heap.size + 1, 0, none⟩ = some sv := cell_at hpar rfl
      have HSQ : Hid (OwnR w3 w.heap.size 62 2 sv L.length (qcells L)) := hsq
      have HB3 : Hid (Below w.heap.size w w3) := HB2.out.trans ⟨hff.os, hff.tape, hff.output, by rw [hff.size]; exact Nat.le_refl _, fun q hq => hff.other q (by omega) (fun he => by have := (HP.out.seqs.lt he).1; omega)⟩
      obtain ⟨ao, c, hsv⟩ := hsq.form
      subst hsv
      clear hpar hsq hbq hff
      go_wp2
      go_ret3
      rw [HPQ.out]
      obtain rfl : K = 0 := by
        have := parseL_zero (linesB s) 0 [] (by rw [HR.out, HPQ.out])
        rw [HR.out, HPQ.out] at this
        exact this
      exact ⟨_, rfl, HSQ.out, fun h => absurd rfl h, HB3.out⟩
    · go_wp2
      go_ret3
      rw [HPQ.out]
      have hLn : L = [] := by
        have := parseL_nil (linesB s) 0 [] (by rw [HR.out, HPQ.out]; exact hF)
        rw [HR.out, HPQ.out] at this
        exact this
      subst hLn
      exact ⟨_, rfl, OwnR.nil _ _ _ _, fun _ => rfl, HB2.out⟩
end Go.Proofs.YtilcmkiihefkkabGreatDoor.Mn
end
