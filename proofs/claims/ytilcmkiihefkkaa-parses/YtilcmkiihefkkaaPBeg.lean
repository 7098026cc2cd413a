import Derived.Test.YtilcmkiihefkkaaPBegA
import Derived.Deep.RegionWith
import Derived.StringKeys
set_option linter.unusedVariables false
set_option linter.unusedSimpArgs false
set_option maxRecDepth 100000
namespace Go.Proofs.Ytilcmkiihefkkaa
open Go.RowKit Go.Maps Go.WideMaps

theorem begin_end {base B Bm g' o' cap' : Nat} {L : List S2} {sv bv : Value} {D : DataW Unit} {d : DataW Unit} {w1 w3 w5 w6 : World} {nm : ByteArray} {ob : Obj}
    (hp : w3.heap[B]? = some (.cells #[sv, .map (some Bm), bv] 74 (0, 0))) (hb : OwnR w3 base 5 1 bv 0 []) (hs : OwnR w3 base 70 2 sv L.length (qcells L))
    (hm : w3.ownsMap Try.prog 9 (plainElem Try.prog 3) Bm (L.length + 1) (D.put (.string nm.data.toList) d)) (hD : Maps.IsMap D) (hh : ∀ s : ByteArray, Maps.has D (.string s.data.toList) = true ↔ hasN L s)
    (hlow : base ≤ w3.heap.size) (hlB : base ≤ B) (hlM : base ≤ Bm) (hbe : Below base w1 w3)
    (h5 : Below w3.heap.size w3.drew w5) (hown : OwnR w6 base 70 2 (.slice (some ⟨g', o', none⟩) (L.length + 1) cap') (L.length + 1) (qcells L ++ [.string nm, .string ⟨#[]⟩]))
    (hfr : AppFr (w5.alloc ob) w6 sv g') (h6 : w6.heap[B]? = some (.cells #[sv, .map (some Bm), bv] 74 (0, 0))) :
    (∃ sv' bv' D', PrP base B Bm (L ++ [⟨nm, ⟨#[]⟩⟩]) sv' bv' D' (w6.setCell ⟨B, 0, none⟩ (.slice (some ⟨g', o', none⟩) (L.length + 1) cap'))) ∧ Below base w1 (w6.setCell ⟨B, 0, none⟩ (.slice (some ⟨g', o', none⟩) (L.length + 1) cap')) := by
  have hU := Upd.of_setCell (i := 0) (.slice (some ⟨g', o', none⟩) (L.length + 1) cap') h6
  have h5s := h5.size
  have h6s := hfr.size
  simp at h5s h6s
  have hoth : ∀ q, q < w3.heap.size → q ≠ B → sv.ownBlock ≠ some q → (w6.setCell ⟨B, 0, none⟩ (.slice (some ⟨g', o', none⟩) (L.length + 1) cap')).heap[q]? = w3.heap[q]? := fun q hq hqB hqs => by
    rw [hU.other q hqB, hfr.other q (by simp; omega) hqs, Below.heap_alloc w5 ob q (by omega), h5.block q hq]
    rfl
  refine ⟨⟨.slice (some ⟨g', o', none⟩) (L.length + 1) cap', bv, D.put (.string nm.data.toList) d, ⟨hU.here, ?_, ?_, ?_, ?_, ?_, hlB, hlM⟩⟩, ?_⟩
  · rw [openL_snoc, List.length_append, qcells_append]
    exact hown.other (fun g hg _ => hU.other g (fun e => by subst e; exact hown.tag (by decide) h6 hg))
  · rw [lastB_snoc]
    exact hb.other (fun g hg hlt => hoth g hlt (fun e => by subst e; exact hb.tag (by decide) hp hg) (hb.apart hs (by decide) hg))
  · rw [List.length_append]
    exact ownsMap_block hm (hoth Bm hm.lt (fun e => ownsMap_ne hm hp e.symm) (hs.neMap hm))
  · intro s
    by_cases hsn : s = nm
    · subst hsn
      constructor
      · intro _
        exact ⟨⟨s, ⟨#[]⟩⟩, by simp, rfl⟩
      · intro _
        exact Maps.has_put_same hD (show WideAt.IsKeyLit (.string s.data.toList) from trivial) d
    · have hne : (Lit.string s.data.toList) ≠ Lit.string nm.data.toList := fun e => hsn (by
        simp only [Lit.string.injEq] at e
        exact WideShapes.bytes_inj e)
      rw [Maps.has_put_other hne, hh s]
      constructor
      · rintro ⟨x, hx, hxs⟩
        exact ⟨x, by simp [hx], hxs⟩
      · rintro ⟨x, hx, hxs⟩
        rw [List.mem_append] at hx
        rcases hx with hx | hx
        · exact ⟨x, hx, hxs⟩
        · simp at hx
          subst hx
          exact absurd hxs.symm hsn
  · rw [hU.size]; omega
  · have h0 := hbe.size
    refine ⟨hU.os.trans (hfr.os.trans (h5.os.trans hbe.os)), hU.tape.trans (hfr.tape.trans (h5.tape.trans hbe.tape)), hU.output.trans (hfr.output.trans (h5.output.trans hbe.output)), by rw [hU.size]; omega, fun q hq => ?_⟩
    rw [hoth q (by omega) (by omega) (fun he => by have := (hs.lt he).1; omega)]
    exact hbe.block q hq

set_option maxHeartbeats 4000000 in
set_option maxRecDepth 100000 in
theorem begin_any (base B Bm : Nat) (L : List S2) (sv bv : Value) (D : DataW Unit) (w : World) (nm : ByteArray) (h : PrP base B Bm L sv bv D w) (hL : L.length ≤ 100000000) (hb : (lastB L).length ≤ 1000000000) (hnz : nm.size ≤ 8000) :
    Calls Try.prog 53 #[.pointer (some ⟨B, 0, none⟩), .string nm] w fun e w' =>
      ((¬ nameOK nm ∧ e = .returned (.int .i64 4)) ∨ (nameOK nm ∧ hasN L nm ∧ e = .returned (.int .i64 5)) ∨
        (nameOK nm ∧ ¬ hasN L nm ∧ e = .returned (.int .i64 0) ∧ ∃ sv' bv' D', PrP base B Bm (L ++ [⟨nm, ⟨#[]⟩⟩]) sv' bv' D' w')) ∧ Below base w w' := by
  obtain ⟨i0, hi, hz0, hz1, hz2⟩ := info_parts Try.info70
  have HPR : Hid (PrP base B Bm L sv bv D w) := h
  have hkey := keyOf_string_mk (P := Try.prog) Try.underlying9 (s := nm) (by unfold maxLen; omega)
  have hmap := h.map
  have c1 : w.cell? ⟨B, 1, none⟩ = some (.map (some Bm)) := cell_at h.par rfl
  have hhs := h.has nm
  have HHS : Hid (Maps.has D (.string nm.data.toList) = true ↔ hasN L nm) := hhs
  clear h hhs
  go_enter Try.func53, Try.ntmps53
  go_wp2_with fail
  refine (nameMayBe_any nm w hnz).mono ?_
  rintro e w1 ⟨h1, rfl⟩
  rcases h1 with ⟨hok, rfl⟩ | ⟨hok, rfl⟩
  · have HOK : Hid (nameOK nm) := hok
    clear hok
    cases hh : Maps.has D (.string nm.data.toList)
    · have HNH : Hid (¬ hasN L nm) := fun h => by rw [HHS.out.2 h] at hh; exact absurd hh (by simp)
      go_wp2_with (at_lookup; refine wpList_lookup_own_ok_int _ rfl _ _ 71 rfl 9 3 .i64 law9 Try.underlying71 Try.underlying3 (zero3 _) Bm L.length D rfl hmap _ _ rfl hkey ?_; intro c hat hwc; rw [hh])
      refine (finish_any base B Bm L sv bv D _ HPR.out hL hb).mono ?_
      rintro e w2 ⟨rfl, bv2, hp2, hs2, hb2, hf2⟩
      have hmap2 : w2.ownsMap Try.prog 9 (plainElem Try.prog 3) Bm L.length D := ownsMap_block HPR.out.map (hf2.other Bm (fun e => ownsMap_ne HPR.out.map HPR.out.par e.symm) (HPR.out.seqs.neMap HPR.out.map))
      have HP2 : Hid (w2.heap[B]? = some (.cells #[sv, .map (some Bm), bv2] 74 (0, 0))) := hp2
      have HS2 : Hid (OwnR w2 base 70 2 sv L.length (qcells L)) := hs2
      have HB2 : Hid (OwnR w2 base 5 1 bv2 0 []) := hb2
      have HF2 : Hid (FFr w1 w2 sv B) := hf2
      have d0 : w2.cell? ⟨B, 0, none⟩ = some sv := cell_at hp2 rfl
      have d1 : w2.cell? ⟨B, 1, none⟩ = some (.map (some Bm)) := cell_at hp2 rfl
      obtain ⟨ao, sc, hsv⟩ := hs2.form
      subst hsv
      clear hp2 hs2 hb2 hf2 hmap c1
      go_wp2
      obtain ⟨w3, hrun, hmap3, hg3⟩ := hmap2.drew.update law9 Try.underlying71 (by unfold maxLen; omega) hkey (plainElem_int (a := (L.length : Int)) Try.underlying3 (WalkArith.wf_i64 (by omega)))
      go_region
      have hBM : B ≠ Bm := ownsMap_ne hmap2 HP2.out
      have hltB := lt_of_block HP2.out
      have hg3s := hg3.size
      have hoth3 : ∀ q, q < w2.heap.size → q ≠ Bm → w3.heap[q]? = w2.heap[q]? := fun q hq hne => hg3.block q hq (fun e => hne (Option.some.inj e))
      have HO3 : Hid (∀ q, q < w2.heap.size → q ≠ Bm → w3.heap[q]? = w2.heap[q]?) := hoth3
      have hp3 : w3.heap[B]? = some (.cells #[.slice ao L.length sc, .map (some Bm), bv2] 74 (0, 0)) := (hoth3 B hltB hBM).trans HP2.out
      have hs3 : OwnR w3 base 70 2 (.slice ao L.length sc) L.length (qcells L) := HS2.out.other (fun g hg hlt => hoth3 g hlt (fun e => by subst e; exact HS2.out.neMap hmap2 hg))
      have hb3 : OwnR w3 base 5 1 bv2 0 [] := HB2.out.other (fun g hg hlt => hoth3 g hlt (fun e => by subst e; exact HB2.out.neMap hmap2 hg))
      have HP3 : Hid (w3.heap[B]? = some (.cells #[.slice ao L.length sc, .map (some Bm), bv2] 74 (0, 0))) := hp3
      have HB3 : Hid (OwnR w3 base 5 1 bv2 0 []) := hb3
      have HS3 : Hid (OwnR w3 base 70 2 (.slice ao L.length sc) L.length (qcells L)) := hs3
      have HM3 : Hid (w3.ownsMap Try.prog 9 (plainElem Try.prog 3) Bm (L.length + 1) (D.put (.string nm.data.toList) (.lit (.int .i64 (L.length : Int))))) := hmap3
      have HSZ : Hid (w2.heap.size ≤ w3.heap.size) := hg3s
      have HBE3 : Hid (Below base w1 w3) := by
        have hf := HF2.out
        refine ⟨hg3.os.trans hf.os, hg3.tape.trans hf.tape, hg3.output.trans hf.output, by have := HSZ.out; have := hf.size; omega, fun q hq => ?_⟩
        have h1 := HPR.out.low
        have h2 := HPR.out.lowB
        have h3 := HPR.out.lowM
        rw [hoth3 q (by have := hf.size; omega) (by omega), hf.other q (by omega) (fun he => by have := (HPR.out.seqs.lt he).1; omega)]
      have k0 : w3.cell? ⟨B, 0, none⟩ = some (.slice ao L.length sc) := cell_at hp3 rfl
      have hlow3 : base ≤ w3.heap.size := by have := HBE3.out.size; have := HPR.out.low; omega
      have hnm1 : 1 ≤ nm.size := HOK.out.1
      have hB3 : B < w3.heap.size := lt_of_block hp3
      clear hrun hmap3 hg3 hg3s hoth3 hp3 hs3 hb3 d0 d1 hmap2 hat hwc
      go_wp2
      go_region_law (first | (refine step_own rfl (.tmp 36) (.tmp 40) 22 rfl 70 i0 _ 2 32 Try.underlying22 hi hz0 hz1 hz2 rfl (by decide) base (.slice ao L.length sc) L.length (qcells L) (by simp [Act.eval]) (by exact hs5.other (fun g _ hlt => Below.heap_alloc _ _ _ hlt)) ⟨w5.heap.size, 0, none⟩ 1 [.string nm, .string ⟨#[]⟩] (by simp [Act.eval]) rfl (by exact pbox_cells _ _ _ _ _ rfl) (seq_oneCell _ _) (by unfold maxLen; omega) (by omega) (by have := HH5.out.size; simp at this ⊢; omega) ?_; intro g' o' cap' w6 hown6 hfr6; have hB6 : w6.heap[B]? = some (.cells #[.slice ao L.length sc, .map (some Bm), bv2] 74 (0, 0)) := (hfr6.other B (by simp; omega) (HS3.out.tag (by decide) HP3.out)).trans ((Below.heap_alloc w5 _ B h5B).trans HB5.out); have k6 := cell_at hB6 (i := 0) rfl; have f6 : w6.frozen? ⟨B, 0, none⟩ = false := frozen_of_row _ _ _ _ _ hB6; have HB6 : Hid _ := hB6; clear hB6) | (go_simp; go_at_call 77; refine (sclone_any nm _ hnm1 hnz).mono ?_; rintro e w5 ⟨rfl, hb5⟩; have hB5 : w5.heap[B]? = some (.cells #[.slice ao L.length sc, .map (some Bm), bv2] 74 (0, 0)) := (hb5.block B hB3).trans HP3.out; have hs5 : OwnR w5 base 70 2 (.slice ao L.length sc) L.length (qcells L) := HS3.out.other (fun g _ hlt => hb5.block g hlt); have k5 : w5.cell? ⟨B, 0, none⟩ = some (.slice ao L.length sc) := cell_at hB5 rfl; have k5a : ∀ ob, (w5.alloc ob).cell? ⟨B, 0, none⟩ = some (.slice ao L.length sc) := (fun ob => cell_at ((Below.heap_alloc w5 ob B (lt_of_block hB5)).trans hB5) rfl); have h5B := lt_of_block hB5; have HB5 : Hid _ := hB5; have HH5 : Hid (Below w3.heap.size w3.drew w5) := hb5; clear hB5 hb5))
      all_goals go_wp2
      all_goals go_ret
      all_goals (obtain ⟨r1, r2⟩ := begin_end HP3.out HB3.out HS3.out HM3.out HPR.out.map.isMap HPR.out.has hlow3 HPR.out.lowB HPR.out.lowM HBE3.out HH5.out hown6 hfr6 HB6.out)
      all_goals exact ⟨Or.inr (Or.inr ⟨HOK.out, HNH.out, rfl, r1⟩), r2⟩
    · have HNH : Hid (hasN L nm) := HHS.out.1 hh
      go_wp2_with (at_lookup; refine wpList_lookup_own_ok_int _ rfl _ _ 71 rfl 9 3 .i64 law9 Try.underlying71 Try.underlying3 (zero3 _) Bm L.length D rfl hmap _ _ rfl hkey ?_; intro c hat hwc; rw [hh])
      go_ret
      exact ⟨Or.inr (Or.inl ⟨HOK.out, HNH.out, rfl⟩), Below.refl _ _⟩
  · have HOK : Hid (¬ nameOK nm) := hok
    clear hok
    go_wp2
    go_ret
    exact ⟨Or.inl ⟨HOK.out, rfl⟩, Below.refl _ _⟩

end Go.Proofs.Ytilcmkiihefkkaa
