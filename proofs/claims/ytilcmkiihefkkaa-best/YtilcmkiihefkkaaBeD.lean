import Derived.Test.YtilcmkiihefkkaaBeB
import Derived.Test.YtilcmkiihefkkaaBeC
import Derived.Deep.RegionHeld3
import Derived.Lib.SliceRun
import Derived.Deep.CutBlock
import Derived.Deep.DeepCutAuto
set_option linter.unusedVariables false
set_option linter.unusedSimpArgs false
namespace Go.Proofs.Ytilcmkiihefkkaa
open Go.RowKit Go.Shelf Go.Lib

/-- bools that came in: where they lie -/
def RdB (w : World) (bo : Option Addr) (nb : Nat) : Prop := nb = 0 ∨ ∃ g o, bo = some ⟨g, o, none⟩ ∧ g < w.heap.size ∧ ∀ j, j < nb → ∃ b, w.cell? ⟨g, o + j, none⟩ = some (.bool b)

/-- all anchors: made so far -/
def AllI (w wx : World) (v : Value) (i : Nat) : Prop := ∃ P : List (Int × Int), P.length = i ∧ (∀ x ∈ P, okA x) ∧ OwnR wx w.heap.size 62 2 v i (acells P) ∧ Below w.heap.size w wx

theorem ex_call (w : World) : Calls Try.prog 25 #[.slice (some ⟨w.heap.size, 0, none⟩) 3 3, .int .i64 4] (w.alloc (.cells #[.int .i64 3, .int .i64 13, .int .i64 8, .int .i64 19, .int .i64 0, .int .i64 10] 62)) fun e w' => ∃ ao c, e = .returned (.tuple #[.slice ao 3 c, .float .f64 4621959855077326848, .int .i64 0]) ∧ Below w.heap.size w w' := by
  have hnew := heap_alloc_new w (.cells #[.int .i64 3, .int .i64 13, .int .i64 8, .int .i64 19, .int .i64 0, .int .i64 10] 62 (0, 0))
  have hbel : Below w.heap.size w (w.alloc (.cells #[.int .i64 3, .int .i64 13, .int .i64 8, .int .i64 19, .int .i64 0, .int .i64 10] 62)) := (Below.refl _ w).alloc (Nat.le_refl _) _
  refine (achain_all L0 3 rfl (some ⟨w.heap.size, 0, none⟩) 3 4 _ (Or.inr ⟨w.heap.size, 0, rfl, by simp, fun j hj => ?_⟩)).mono ?_
  · have hj3 : j < 3 := hj
    rcases (show j = 0 ∨ j = 1 ∨ j = 2 by omega) with rfl | rfl | rfl
    · exact ⟨cell_at hnew rfl, cell_at hnew rfl⟩
    · exact ⟨cell_at hnew rfl, cell_at hnew rfl⟩
    · exact ⟨cell_at hnew rfl, cell_at hnew rfl⟩
  · rintro e w' ⟨v, rfl, hb, ho, _⟩
    obtain ⟨g1, g2, g3⟩ := L0_good
    have e1 : ansE L0 4 = 0 := g1
    have e2 : ansF L0 4 = 4621959855077326848 := by unfold ansF; rw [if_pos g1, g2, fq41]
    have e3 : (ansM L0 4).length = 3 := by unfold ansM; rw [if_pos g1, g3]
    obtain ⟨ao, c, rfl⟩ := ho.shape
    refine ⟨ao, c, by rw [e1, e2, e3], ?_⟩
    exact hbel.trans (hb.mono (by simp))

theorem errC_ok (P : List (Int × Int)) (k : Int) (hk1 : 1 ≤ k) (hk2 : k ≤ 12) (h4 : P.length ≤ 400) (hok : ∀ x ∈ P, okA x) (h0 : P ≠ []) : errC P k = 0 := by
  unfold errC
  rw [if_neg (by omega), if_neg (by omega), if_neg (fun h => h0 (List.eq_nil_of_length_eq_zero h)), if_neg]
  intro hb
  exact (any_outB P).1 hb hok

theorem errC_nil (k : Int) (hk1 : 1 ≤ k) (hk2 : k ≤ 12) : errC [] k = 7 := by
  unfold errC
  rw [if_neg (by omega), if_neg (by simp), if_pos (by simp)]

set_option maxHeartbeats 8000000 in
set_option maxRecDepth 100000 in
theorem best_any (R : List (Int × Int)) (n : Nat) (hn : R.length = n) (ao : Option Addr) (cap : Nat) (kk : Int) (bo : Option Addr) (nb cb : Nat) (w : World) (h63 : n ≤ 8796093022208) (hnb : nb ≤ 9223372036854775807) (hkk : -9223372036854775808 ≤ kk ∧ kk ≤ 9223372036854775807)
    (hR : ∀ x ∈ R, (-9223372036854775808 ≤ x.1 ∧ x.1 ≤ 9223372036854775807) ∧ (-9223372036854775808 ≤ x.2 ∧ x.2 ≤ 9223372036854775807)) (hA : RdA w ao R) (hBo : RdB w bo nb) :
    Calls Try.prog 8 #[.slice ao n cap, .int .i64 kk, .slice bo nb cb] w fun e w' => e = .returned (.bool true) ∧ Below w.heap.size w w' := by
  obtain ⟨i0, hi0, hz0, hz1, hz2⟩ := info_parts Try.info62
  have HN : Hid (R.length = n) := hn
  have HRR : Hid (∀ x ∈ R, (-9223372036854775808 ≤ x.1 ∧ x.1 ≤ 9223372036854775807) ∧ (-9223372036854775808 ≤ x.2 ∧ x.2 ≤ 9223372036854775807)) := hR
  have HA : Hid (RdA w ao R) := hA
  have HBo : Hid (RdB w bo nb) := hBo
  have hpk := pkv_lt kk 12 (by omega)
  have cP := lpick_eq kk 12 w hkk (by omega) (by omega)
  obtain ⟨pk, hpke⟩ : ∃ x, x = pkv kk 12 := ⟨_, rfl⟩
  rw [← hpke] at hpk cP
  clear hn hR hA hBo hpke
  go_enter Try.func8, Try.ntmps8
  go_upto_block 0 with (go_at_call 22; refine cP.mono ?_; rintro e w' ⟨rfl, rfl⟩)
  have hk1 : 1 ≤ 1 + pk := by omega
  have hk2 : 1 + pk ≤ 12 := by omega
  obtain ⟨k, hk⟩ : ∃ k, k = 1 + pk := ⟨_, rfl⟩
  rw [← hk] at hk1 hk2 ⊢
  clear hk hpk
  go_cut [7] (fun av wc => ∃ i, i ≤ 400 ∧ AllI w' wc av i)
  case first =>
    go_wp2_with fail
    go_loopw [7, 8] (fun av iv wx => ∃ i : Nat, i ≤ n ∧ i ≤ 400 ∧ iv = .int .i64 i ∧ AllI w' wx av i) (fun _ iv _ => 400 - (intOf iv).toNat)
    case atStart => exact ⟨0, Nat.zero_le _, Nat.zero_le _, rfl, [], rfl, by simp, OwnR.nil _ _ _ _, Below.refl _ _⟩
    case round =>
      obtain ⟨i, hin, hi4, rfl, P, hPl, hPo, hown, hbel⟩ := hrel
      obtain ⟨aa, ca, hav⟩ := hown.shape
      subst hav
      by_cases hgo : i < n ∧ i < 400
      · obtain ⟨h1, h2⟩ := hgo
        have h1I : (i : Int) < n := by omega
        have h2I : (i : Int) < 400 := by omega
        obtain ⟨g, o, hao, hg, c1, c2, hb⟩ : ∃ g o, ao = some ⟨g, o, none⟩ ∧ g < w'.heap.size ∧ ∃ x : Int × Int, wr.cell? ⟨g, o + i * 2, none⟩ = some (.int .i64 x.1) ∧ wr.cell? ⟨g, o + i * 2 + 1, none⟩ = some (.int .i64 x.2) ∧ (-9223372036854775808 ≤ x.1 ∧ x.1 ≤ 9223372036854775807) ∧ (-9223372036854775808 ≤ x.2 ∧ x.2 ≤ 9223372036854775807) := by
          rcases HA.out with h | ⟨g, o, ha, hg, hc⟩
          · have := HN.out; rw [h] at this; simp at this; omega
          · have hi : i < R.length := by rw [HN.out]; exact h1
            have hx := hc i hi
            rw [← hbel.cell hg, ← hbel.cell hg] at hx
            exact ⟨g, o, ha, hg, R[i], hx.1, hx.2, HRR.out _ (List.getElem_mem hi)⟩
        subst hao
        obtain ⟨xr, xp⟩ := c1
        obtain ⟨c2', hb1, hb2⟩ := hb
        simp only at c2 c2' hb1 hb2
        have q1 := lpick_eq xr 10001 
        have q2 := lpick_eq xp 10001
        have l1 := pkv_lt xr 10001 (by omega)
        have l2 := pkv_lt xp 10001 (by omega)
        obtain ⟨pr, hpr⟩ : ∃ x, x = pkv xr 10001 := ⟨_, rfl⟩
        obtain ⟨pp, hpp⟩ : ∃ x, x = pkv xp 10001 := ⟨_, rfl⟩
        rw [← hpr] at l1
        rw [← hpp] at l2
        have cA : ∀ c r, ((c = xr ∧ r = pr) ∨ (c = xp ∧ r = pp)) → ∀ W, Calls Try.prog 22 #[.int .i64 c, .int .i64 10001] W fun e w' => e = .returned (.int .i64 r) ∧ w' = W := by
          rintro c r (⟨rfl, rfl⟩ | ⟨rfl, rfl⟩)
          · intro W; rw [hpr]; exact q1 W hb1 (by omega) (by omega)
          · intro W; rw [hpp]; exact q2 W hb2 (by omega) (by omega)
        have HOWN : Hid (OwnR wr w'.heap.size 62 2 (.slice aa i ca) i (acells P)) := hown
        have HBEL : Hid (Below w'.heap.size w' wr) := hbel
        have hsz := hbel.size
        have HPL : Hid (P.length = i) := hPl
        have HPO : Hid (∀ x ∈ P, okA x) := hPo
        have hgw : g < wr.heap.size := by omega
        have hneg : (Value.slice aa i ca).ownBlock ≠ some g := fun he => by have := (hown.lt he).1; omega
        clear q1 q2 hpr hpp hown hbel hPl hPo
        go_wp2_with fail
        go_region_held3 (fun wz => wz.cell? ⟨g, o + i * 2, none⟩ = some (.int .i64 xr) ∧ wz.cell? ⟨g, o + i * 2 + 1, none⟩ = some (.int .i64 xp)) (go_keep) (first | (go_at_call 22; (refine (cA _ _ (by first | exact Or.inl ⟨rfl, rfl⟩ | exact Or.inr ⟨rfl, rfl⟩) _).mono ?_; rintro e w'' ⟨rfl, rfl⟩)) | (refine step_own rfl (.tmp 37) (.tmp 51) 52 rfl 62 i0 _ 2 16 Try.underlying52 hi0 hz0 hz1 hz2 rfl (by decide) w'.heap.size (.slice aa i ca) i (acells P) (by simp [Act.eval]) (by exact HOWN.out.other (fun g _ hlt => Below.heap_alloc _ _ _ hlt)) ⟨wr.heap.size, 0, none⟩ 1 [.int .i64 pr, .int .i64 pp] (by simp [Act.eval]) rfl (by exact abox_cells wr _ _ _ _ rfl) (an_oneCell _ _) (by unfold maxLen; omega) (by omega) (by simp; omega) ?_; intro g' o' cap' w6 hown' hfr; have k0 : w6.heap[g]? = wr.heap[g]? := (hfr.other g (by simp; omega) hneg).trans (Below.heap_alloc _ _ _ hgw); have k1 : w6.cell? ⟨g, o + i * 2, none⟩ = some (.int .i64 xr) := (World.cell?_of_block k0).trans c2; have k2 : w6.cell? ⟨g, o + i * 2 + 1, none⟩ = some (.int .i64 xp) := (World.cell?_of_block k0).trans c2'; clear k0))
        go_wp2_with fail
        go_roundw
        case rel =>
          refine ⟨i + 1, by omega, by omega, by go_num, P ++ [(pr, pp)], by rw [List.length_append, HPL.out]; rfl, ?_, ?_, ?_⟩
          · intro x hx
            rw [List.mem_append, List.mem_singleton] at hx
            rcases hx with hx | rfl
            · exact HPO.out x hx
            · unfold okA; simp only; omega
          · rw [acells_append]; exact hown'
          · have hs := hfr.size
            simp at hs
            refine ⟨hfr.os.trans HBEL.out.os, hfr.tape.trans HBEL.out.tape, hfr.output.trans HBEL.out.output, by omega, fun q hq => ?_⟩
            exact (hfr.other q (by simp; omega) (fun he => by have := (HOWN.out.lt he).1; omega)).trans ((Below.heap_alloc _ _ _ (by show q < wr.heap.size; omega)).trans (HBEL.out.block q hq))
        case measure => simp [intOf]; omega
      · have HAI : Hid (AllI w' wr (.slice aa i ca) i) := ⟨P, hPl, hPo, hown, hbel⟩
        clear hown hbel hPo hPl
        by_cases h1 : i < n
        · have h1I : (i : Int) < n := by omega
          have h2I : ¬ ((i : Int) < 400) := by omega
          go_wp2_with fail
          go_meet
          case rel => exact ⟨i, hi4, HAI.out⟩
        · have h1I : ¬ ((i : Int) < n) := by omega
          have h1d : decide ((i : Int) < n) = false := decide_eq_false h1I
          go_wp2_with fail
          go_meet
          case rel => exact ⟨i, hi4, HAI.out⟩
  case rest =>
    obtain ⟨m, hm4, P, hPl, hPo, hown, hbel⟩ := hcut
    obtain ⟨aa, ca, hav⟩ := hown.shape
    subst hav
    have HPL : Hid (P.length = m) := hPl
    have HPO : Hid (∀ x ∈ P, okA x) := hPo
    have HOP : Hid (OwnR wc w'.heap.size 62 2 (.slice aa m ca) m (acells P)) := hown
    have HBP : Hid (Below w'.heap.size w' wc) := hbel
    clear hown hbel hPl hPo
    go_wp2_with fail
    refine (ex_call wc).mono ?_
    rintro e w2 ⟨aoX, cX, rfl, hb2⟩
    have hoX : FloatKind.f64.format.order 4621959855077326848 4621959855077326848 = some .eq := by decide
    have HB2 : Hid (Below wc.heap.size wc w2) := hb2
    have HOP2 : Hid (OwnR w2 w'.heap.size 62 2 (.slice aa m ca) m (acells P)) := HOP.out.other (fun g _ hlt => hb2.block g hlt)
    have HRA : Hid (RdA w2 aa P) := by
      rcases HOP2.out.2 with ⟨_, h⟩ | ⟨g', o', cap', cur, he, h1, h2, _⟩
      · exact Or.inl (List.eq_nil_of_length_eq_zero (by rw [HPL.out]; exact h))
      · simp only [Value.slice.injEq] at he
        have haa := he.1
        have h3 := HOP2.out
        subst haa
        exact Or.inr ⟨g', o', rfl, lt_of_block h2, h3.ans⟩
    clear hb2
    by_cases hm0 : m = 0
    · subst hm0
      have hPn : P = [] := List.eq_nil_of_length_eq_zero HPL.out
      subst hPn
      have cC := achain_all [] 0 rfl aa ca k w2 (Or.inl rfl)
      unfold ChPost at cC
      have herr := errC_nil k hk1 hk2
      have e1 : ansE [] k = 7 := herr
      have e2 : ansF [] k = 0 := by unfold ansF; rw [if_neg (by rw [herr]; decide)]
      rw [e1, e2] at cC
      have cD : Calls Try.prog 25 #[.slice aa 0 ca, .int .i64 k] w2 fun e w' => e = .returned (.tuple #[.slice none 0 0, .float .f64 0, .int .i64 7]) ∧ Below w2.heap.size w2 w' := by
        refine cC.mono ?_
        rintro e w3 ⟨v3, rfl, hb3, _, hv⟩
        rw [hv (by decide)]
        exact ⟨rfl, hb3⟩
      have ho0 : FloatKind.f64.format.order 0 0 = some .eq := by decide
      clear cC herr e1 e2
      go_wp2_with fail
      refine cD.mono ?_
      rintro e w3 ⟨rfl, hb3⟩
      have HB3 : Hid (Below w2.heap.size w2 w3) := hb3
      have hsl : ∀ W : World, Sem.run Try.prog (binOp .eql 52 (.slice none 0 0) (.slice none 0 0)) W = .ok (.bool true) W := fun W => Lib.run_eql_slice_nil W 52 62 none 0 0 0 0 Try.underlying52
      clear cD hb3
      go_wp2_with fail
      go_ret
      exact ⟨rfl, (HBP.out.trans (HB2.out.mono HBP.out.size)).trans (HB3.out.mono (Nat.le_trans HBP.out.size HB2.out.size))⟩
    · have hP0 : P ≠ [] := fun h => hm0 (by rw [← HPL.out, h]; rfl)
      have herr := errC_ok P k hk1 hk2 (by rw [HPL.out]; exact hm4) HPO.out hP0
      have cC := achain_all P m HPL.out aa ca k w2 HRA.out
      unfold ChPost at cC
      have e1 : ansE P k = 0 := herr
      have e2 : ansF P k = fq (chQ k P) := by unfold ansF; rw [if_pos herr]
      have e3 : ansM P k = chL k P := by unfold ansM; rw [if_pos herr]
      rw [e1, e2, e3] at cC
      obtain ⟨gr, gw, gl, gm⟩ := chain_good k P hP0
      have gb := chQ_bound P k herr
      obtain ⟨C, hC⟩ : ∃ C, C = chL k P := ⟨_, rfl⟩
      rw [← hC] at cC gr gw gl gm gb
      obtain ⟨Q, hQ⟩ : ∃ Q, Q = chQ k P := ⟨_, rfl⟩
      rw [← hQ] at cC gw gb
      have HBL : Hid (∀ O : List (Int × Int), (∀ x ∈ O, x ∈ P) → risN O O.length → 0 < O.length → wqs k O (O.length - 1) ≤ Q) := fun O h1 h2 h3 => by rw [hQ]; exact best_le k P O h1 h2 h3
      have HGM : Hid (∀ x ∈ C, x ∈ P) := gm
      have HGR : Hid (risN C C.length) := gr
      have HGW : Hid (wqs k C (C.length - 1) = Q) := gw
      have hmI : ¬ ((m : Int) = 0) := by omega
      clear hC hQ e1 e2 e3 herr gm gr gw
      go_wp2_with fail
      refine cC.mono ?_
      rintro e w3 ⟨v3, rfl, hb3, ho3, _⟩
      obtain ⟨a3, c3, rfl⟩ := ho3.shape
      clear cC
      obtain ⟨g3, o3, ha3, hg3a, hg3b⟩ : ∃ g3 o3, a3 = some ⟨g3, o3, none⟩ ∧ w2.heap.size ≤ g3 ∧ g3 < w3.heap.size := by
        rcases ho3.2 with ⟨_, h⟩ | ⟨g', o', cap', cur, he, h1, h2, _⟩
        · omega
        · simp only [Value.slice.injEq] at he
          exact ⟨g', o', he.1, h1, lt_of_block h2⟩
      subst ha3
      obtain ⟨gp, op, haa, hgpa, hgpb, hcp⟩ : ∃ gp op, aa = some ⟨gp, op, none⟩ ∧ w'.heap.size ≤ gp ∧ gp < w2.heap.size ∧ ∀ j (hj : j < P.length), w3.cell? ⟨gp, op + j * 2, none⟩ = some (.int .i64 P[j].1) ∧ w3.cell? ⟨gp, op + j * 2 + 1, none⟩ = some (.int .i64 P[j].2) := by
        rcases HOP2.out.2 with ⟨_, h⟩ | ⟨g', o', cap', cur, he, h1, h2, _⟩
        · omega
        · simp only [Value.slice.injEq] at he
          have haa := he.1
          have h3 := HOP2.out
          subst haa
          refine ⟨g', o', rfl, h1, lt_of_block h2, fun j hj => ?_⟩
          rw [hb3.cell (lt_of_block h2), hb3.cell (lt_of_block h2)]
          exact h3.ans j hj
      subst haa
      have HCP : Hid (∀ j (hj : j < P.length), w3.cell? ⟨gp, op + j * 2, none⟩ = some (.int .i64 P[j].1) ∧ w3.cell? ⟨gp, op + j * 2 + 1, none⟩ = some (.int .i64 P[j].2)) := hcp
      have HCC : Hid (∀ j (hj : j < C.length), w3.cell? ⟨g3, o3 + j * 2, none⟩ = some (.int .i64 C[j].1) ∧ w3.cell? ⟨g3, o3 + j * 2 + 1, none⟩ = some (.int .i64 C[j].2)) := ho3.ans
      have HB3 : Hid (Below w2.heap.size w2 w3) := hb3
      have cW := worth_some C C.length rfl gl gb.2.2 g3 o3 c3 k w3 hk1 hk2 ho3.ans (fun j hj => by
        have : C.getD j A0 = C[j] := by simp [hj]
        rw [this]; exact HPO.out _ (HGM.out _ (List.getElem_mem hj))) HGR.out
      rw [HGW.out] at cW
      have hQ1 := gb.1
      have hQ2 := gb.2.1
      have hC4 := gb.2.2
      have p53 : (1048576 : Nat) ≤ 2 ^ 53 := by decide
      have HP53 : Hid ((1048576 : Nat) ≤ 2 ^ 53) := p53
      have hoQ : FloatKind.f64.format.order (fq Q) (fq Q) = some .eq := by
        have := order_fq Q Q (by omega) (by omega)
        rw [show compare Q Q = .eq by simp [compare, compareOfLessAndEq]] at this
        exact this
      obtain ⟨nc, hnc⟩ : ∃ x, x = C.length := ⟨_, rfl⟩
      have HNC : Hid (nc = C.length) := hnc
      rw [← hnc] at gl hC4 cW ⊢
      clear gb p53 hcp ho3 hb3 hnc HGR HGW
      go_wp2_with fail
      refine cW.mono ?_
      rintro e w4 ⟨rfl, q4, rfl⟩
      clear cW
      go_wp2_with fail
      go_loopw [16] (fun iv wx => ∃ i : Nat, i ≤ nc ∧ iv = .int .i64 i ∧ ∃ q, wx = w3.drewN q) (fun iv _ => nc - (intOf iv).toNat)
      case atStart => exact ⟨0, Nat.zero_le _, rfl, _, rfl⟩
      case round =>
        obtain ⟨i, hi, rfl, qi, rfl⟩ := hrel
        by_cases hlt : i < nc
        · have hltI : (i : Int) < nc := by omega
          have hCi : i < C.length := by rw [← HNC.out]; exact hlt
          obtain ⟨x1, x2⟩ := HCC.out i hCi
          have hin := HGM.out _ (List.getElem_mem hCi)
          obtain ⟨x, hx⟩ : ∃ x, x = C[i] := ⟨_, rfl⟩
          rw [← hx] at x1 x2 hin
          have HIN : Hid (x ∈ P) := hin
          obtain ⟨xr, xp⟩ := x
          simp only at x1 x2
          clear hx hin
          go_wp2_with fail
          go_loopw [17, 18] (fun fv jv wx => ∃ (j : Nat) (f : Bool), j ≤ m ∧ jv = .int .i64 j ∧ fv = .bool f ∧ Hid (f = true ↔ ∃ t, ∃ h : t < P.length, t < j ∧ P[t] = (xr, xp)) ∧ ∃ q, wx = w3.drewN q) (fun _ jv _ => m - (intOf jv).toNat)
          case atStart => exact ⟨0, false, Nat.zero_le _, rfl, rfl, ⟨fun h => by simp at h, fun ⟨t, _, h, _⟩ => absurd h (by omega)⟩, _, rfl⟩
          case round =>
            obtain ⟨j, f, hj, rfl, rfl, HF, qj, rfl⟩ := hrel
            by_cases hjm : j < m
            · have hjI : (j : Int) < m := by omega
              have hPj : j < P.length := by rw [HPL.out]; exact hjm
              obtain ⟨y1, y2⟩ := HCP.out j hPj
              obtain ⟨y, hy⟩ : ∃ y, y = P[j] := ⟨_, rfl⟩
              rw [← hy] at y1 y2
              have HY : Hid (P[j] = y) := hy.symm
              obtain ⟨yr, yp⟩ := y
              simp only at y1 y2
              clear hy
              have HST : Hid (∀ f' : Bool, f' = (f || decide ((yr, yp) = (xr, xp))) → (f' = true ↔ ∃ t, ∃ h : t < P.length, t < j + 1 ∧ P[t] = (xr, xp))) := by
                intro f' hf'
                rw [hf', Bool.or_eq_true, HF.out, decide_eq_true_iff]
                constructor
                · rintro (⟨t, h, h1, h2⟩ | h)
                  · exact ⟨t, h, by omega, h2⟩
                  · exact ⟨j, hPj, by omega, by rw [HY.out]; exact h⟩
                · rintro ⟨t, h, h1, h2⟩
                  by_cases he : t = j
                  · subst he; right; rw [← HY.out]; exact h2
                  · left; exact ⟨t, h, by omega, h2⟩
              cases f with
              | true =>
                go_wp2_with fail
                go_quiet (fail)
                go_wp2_with fail
                go_roundw
                case rel => exact ⟨j + 1, true, by omega, by go_num, rfl, HST.out true rfl, _, rfl⟩
                case measure => simp [intOf]; omega
              | false =>
                by_cases e1 : yr = xr
                · by_cases e2 : yp = xp
                  · subst e1 e2
                    go_wp2_with fail
                    go_quiet (fail)
                    go_wp2_with fail
                    go_roundw
                    case rel => exact ⟨j + 1, true, by omega, by go_num, rfl, HST.out true (by simp), _, rfl⟩
                    case measure => simp [intOf]; omega
                  · subst e1
                    go_wp2_with fail
                    go_quiet (fail)
                    go_wp2_with fail
                    go_roundw
                    case rel => exact ⟨j + 1, false, by omega, by go_num, rfl, HST.out false (by simp [e2]), _, rfl⟩
                    case measure => simp [intOf]; omega
                · go_wp2_with fail
                  go_quiet (fail)
                  go_wp2_with fail
                  go_roundw
                  case rel => exact ⟨j + 1, false, by omega, by go_num, rfl, HST.out false (by simp [e1]), _, rfl⟩
                  case measure => simp [intOf]; omega
            · have hje : j = m := by omega
              subst hje
              have hft : f = true := by
                rw [HF.out]
                obtain ⟨t, ht, he⟩ := List.getElem_of_mem HIN.out
                exact ⟨t, ht, by rw [← HPL.out]; exact ht, he⟩
              subst hft
              clear HF
              go_wp2_with fail
              go_roundw
              case rel => exact ⟨i + 1, by omega, by go_num, _, rfl⟩
              case measure => simp [intOf]; omega
        · have hie : i = nc := by omega
          subst hie
          have hgeI : ¬ ((i : Int) < i) := by omega
          have HBW3 : Hid (Below w'.heap.size w' w3) := (HBP.out.trans (HB2.out.mono HBP.out.size)).trans (HB3.out.mono (Nat.le_trans HBP.out.size HB2.out.size))
          have hsz3 : w2.heap.size ≤ w3.heap.size := HB3.out.size
          go_wp2_with fail
          go_loopw [19, 20] (fun ov tv wx => ∃ (t : Nat) (O : List (Int × Int)), t ≤ m ∧ tv = .int .i64 t ∧ O.length ≤ t ∧ Hid ((∀ x ∈ O, x ∈ P) ∧ risN O O.length) ∧ OwnR wx w3.heap.size 62 2 ov O.length (acells O) ∧ Below w3.heap.size w3 wx) (fun _ tv _ => m - (intOf tv).toNat)
          case atStart => exact ⟨0, [], Nat.zero_le _, rfl, by simp, ⟨by simp, fun i hi => absurd hi (by simp)⟩, OwnR.nil _ _ _ _, belDrewN (Below.refl _ _) _⟩
          case round =>
            obtain ⟨t, O, htm, rfl, hOt, HO, hown, hbel⟩ := hrel
            obtain ⟨oo, oc, hov⟩ := hown.shape
            subst hov
            have HOWN : Hid (OwnR wr w3.heap.size 62 2 (.slice oo O.length oc) O.length (acells O)) := hown
            have HBEL : Hid (Below w3.heap.size w3 wr) := hbel
            have hszr := hbel.size
            by_cases htl : t < m
            · have htI : (t : Int) < m := by omega
              have hPt : t < P.length := by rw [HPL.out]; exact htl
              obtain ⟨y1, y2⟩ := HCP.out t hPt
              rw [← hbel.cell (show gp < _ by omega)] at y1
              rw [← hbel.cell (show gp < _ by omega)] at y2
              obtain ⟨y, hy⟩ : ∃ y, y = P[t] := ⟨_, rfl⟩
              rw [← hy] at y1 y2
              have HY : Hid (y ∈ P) := by rw [hy]; exact List.getElem_mem hPt
              obtain ⟨yr, yp⟩ := y
              simp only at y1 y2
              have hol : O.length ≤ 400 := by omega
              clear hown hbel hy
              go_upto_region 31 with fail
              go_cut [22] (fun rv wc => ∃ (r : Bool), rv = .bool r ∧ Hid (r = true → O.length = 0 ∨ fol (O.getD (O.length - 1) A0) (yr, yp)) ∧ ∃ q, wc = wr.drewN q)
              case first =>
                by_cases hO0 : O.length = 0
                · have hlI : (O.length : Int) - 1 < 0 := by omega
                  have HO0 : Hid (O.length = 0) := hO0
                  clear hO0
                  go_quiet (fail)
                  go_wp2_with fail
                  go_meet
                  case rel => exact ⟨true, rfl, fun _ => Or.inl HO0.out, _, rfl⟩
                · obtain ⟨p, hp⟩ : ∃ p, p + 1 = O.length := ⟨O.length - 1, by omega⟩
                  obtain ⟨g5, o5, hoo, z1, z2⟩ : ∃ g5 o5, oo = some ⟨g5, o5, none⟩ ∧ wr.cell? ⟨g5, o5 + (O.length - 1) * 2, none⟩ = some (.int .i64 (O.getD (O.length - 1) A0).1) ∧ wr.cell? ⟨g5, o5 + (O.length - 1) * 2 + 1, none⟩ = some (.int .i64 (O.getD (O.length - 1) A0).2) := by
                    rcases HOWN.out.2 with ⟨_, h⟩ | ⟨g', o', cap', cur, he, h1, h2, _⟩
                    · exact absurd h hO0
                    · simp only [Value.slice.injEq] at he
                      have hoo := he.1
                      have h3 := HOWN.out
                      subst hoo
                      have hpl : p < O.length := by omega
                      have h4 := h3.ans p hpl
                      have e : O.getD (O.length - 1) A0 = O[p] := by
                        rw [show O.length - 1 = p by omega]; simp [hpl]
                      rw [e]
                      have e5 : O.length - 1 = p := by omega
                      rw [e5]
                      exact ⟨g', o', rfl, h4.1, h4.2⟩
                  subst hoo
                  have hlI : ¬ ((O.length : Int) - 1 < 0) := by omega
                  have hpJ : (O.length : Int) - 1 < (O.length : Int) := by omega
                  have hpK : 0 ≤ (O.length : Int) - 1 := by omega
                  have HPE : Hid (p + 1 = O.length) := hp
                  obtain ⟨z, hz⟩ : ∃ z, z = O.getD (O.length - 1) A0 := ⟨_, rfl⟩
                  rw [← hz] at z1 z2
                  have HZ : Hid (O.getD (O.length - 1) A0 = z) := hz.symm
                  obtain ⟨zr, zp⟩ := z
                  simp only at z1 z2
                  clear hp hz hO0
                  by_cases c1 : zp < yp
                  · by_cases c2 : zr < yr
                    · have HCC2 : Hid (fol (zr, zp) (yr, yp)) := ⟨c1, c2⟩
                      go_quiet (fail)
                      clear z1 z2 hlI hpJ hpK y1 y2 c1 c2
                      go_wp2_with fail
                      go_meet
                      case rel => exact ⟨true, rfl, fun _ => Or.inr (by rw [HZ.out]; exact HCC2.out), _, rfl⟩
                    · have c2d : decide (zr < yr) = false := decide_eq_false c2
                      go_quiet (fail)
                      clear z1 z2 hlI hpJ hpK y1 y2 c1 c2 c2d
                      go_wp2_with fail
                      go_meet
                      case rel => exact ⟨false, rfl, fun h => by simp at h, _, rfl⟩
                  · have c1d : decide (zp < yp) = false := decide_eq_false c1
                    go_quiet (fail)
                    clear z1 z2 hlI hpJ hpK y1 y2 c1 c1d
                    go_wp2_with fail
                    go_meet
                    case rel => exact ⟨false, rfl, fun h => by simp at h, _, rfl⟩
              case rest =>
                obtain ⟨r, rfl, HRI, q8, rfl⟩ := hcut
                have HBB : Hid (t < nb → ∃ g7 o7, bo = some ⟨g7, o7, none⟩ ∧ ∃ b, (wr.drewN q8).cell? ⟨g7, o7 + t, none⟩ = some (.bool b)) := by
                  intro hlt
                  rcases HBo.out with h | ⟨g7, o7, hb, hg, hc⟩
                  · omega
                  · obtain ⟨b, hb2⟩ := hc t hlt
                    have hz3 := HBW3.out.size
                    exact ⟨g7, o7, hb, b, by
                      show wr.cell? _ = _
                      rw [HBEL.out.cell (show g7 < w3.heap.size by omega), HBW3.out.cell hg]; exact hb2⟩
                have HY1 : Hid (wr.cell? ⟨gp, op + t * 2, none⟩ = some (.int .i64 yr)) := y1
                have HY2 : Hid (wr.cell? ⟨gp, op + t * 2 + 1, none⟩ = some (.int .i64 yp)) := y2
                clear y1 y2
                go_upto_region 32 with fail
                go_cut [185] (fun sv wc => ∃ (s : Bool), sv = .bool s ∧ Hid (s = true → O.length = 0 ∨ fol (O.getD (O.length - 1) A0) (yr, yp)) ∧ ∃ q, wc = wr.drewN q)
                case first =>
                  cases r with
                  | false =>
                    go_wp2_with fail
                    go_meet
                    case rel => exact ⟨false, rfl, fun h => by simp at h, _, rfl⟩
                  | true =>
                    by_cases hnt : t < nb
                    · obtain ⟨g7, o7, hbo, b, hcb⟩ := HBB.out hnt
                      subst hbo
                      have hntI : ¬ ((nb : Int) ≤ t) := by omega
                      have hntJ : (t : Int) < nb := by omega
                      go_wp2_with fail
                      go_meet
                      case rel => exact ⟨b, rfl, fun _ => HRI.out trivial, _, rfl⟩
                    · have hntI : (nb : Int) ≤ t := by omega
                      go_wp2_with fail
                      go_meet
                      case rel => exact ⟨true, rfl, fun _ => HRI.out trivial, _, rfl⟩
                case rest =>
                  obtain ⟨s, rfl, HSI, q9, rfl⟩ := hcut
                  cases s with
                  | false =>
                    go_wp2_with fail
                    go_roundw
                    case rel => exact ⟨t + 1, O, by omega, by go_num, by omega, HO, HOWN.out.other (fun g _ _ => rfl), belDrewN HBEL.out _⟩
                    case measure => simp [intOf]; omega
                  | true =>
                    have y1 := HY1.out
                    have y2 := HY2.out
                    go_wp2_with (at_builtin; go_must (refine wpList_own _ rfl (.tmp 186) (.tmp 191) 52 rfl 62 i0 _ 2 16 Try.underlying52 hi0 hz0 hz1 hz2 rfl (by decide) w3.heap.size (.slice oo O.length oc) O.length (acells O) rfl (by exact HOWN.out.other (fun g _ hlt => Below.heap_alloc (wr.drewN _) _ _ hlt)) ⟨wr.heap.size, 0, none⟩ 1 [.int .i64 yr, .int .i64 yp] rfl rfl (by exact abox_cells _ _ _ _ _ rfl) (an_oneCell _ _) (by unfold maxLen; omega) (by omega) (by simp; omega) ?_; intro g' o' cap' w5 hown5 hf5))
                    go_roundw
                    case rel =>
                      refine ⟨t + 1, O ++ [(yr, yp)], by omega, by go_num, by simp only [List.length_append, List.length_singleton]; omega, ⟨?_, ?_⟩, ?_, ?_⟩
                      · intro x hx
                        rw [List.mem_append, List.mem_singleton] at hx
                        rcases hx with hx | rfl
                        · exact HO.out.1 x hx
                        · exact HY.out
                      · intro i hi
                        rw [List.length_append] at hi
                        by_cases he : i + 1 < O.length
                        · rw [getD_app_l O _ i (by omega), getD_app_l O _ (i + 1) he]; exact HO.out.2 i he
                        · have he2 : i + 1 = O.length := by simp at hi; omega
                          have hf : fol (O.getD (O.length - 1) A0) (yr, yp) := by
                            rcases HSI.out rfl with h | h
                            · omega
                            · exact h
                          rw [getD_app_l O _ i (by omega), show i = O.length - 1 by omega, show O.length - 1 + 1 = O.length by omega]
                          simpa using hf
                      · rw [List.length_append, acells_append]; exact hown5
                      · refine ⟨hf5.os.trans HBEL.out.os, hf5.tape.trans HBEL.out.tape, hf5.output.trans HBEL.out.output, ?_, fun j hj => ?_⟩
                        · have := hf5.size
                          simp at this
                          omega
                        · rw [hf5.other j (by simp; omega) (fun he => by have := (HOWN.out.lt he).1; omega), Below.heap_alloc _ _ _ (by simp; omega)]
                          exact HBEL.out.block j hj
                    case measure => simp [intOf]; omega
            · have hte : t = m := by omega
              subst hte
              have hteI : ¬ ((t : Int) < t) := by omega
              have HFB : Hid (Below w'.heap.size w' wr) := HBW3.out.trans (HBEL.out.mono HBW3.out.size)
              obtain ⟨lo, hlo⟩ : ∃ x, x = O.length := ⟨_, rfl⟩
              have HLO : Hid (O.length = lo) := hlo.symm
              rw [← hlo] at HOWN hOt ⊢
              clear hlo hown hbel
              by_cases hl0 : lo = 0
              · subst hl0
                have cN := worth_nil oo oc k wr hk1 hk2
                go_wp2_with fail
                refine cN.mono ?_
                rintro e w5 ⟨rfl, q5, rfl⟩
                clear cN
                go_wp2_with fail
                go_ret
                exact ⟨rfl, belDrewN HFB.out _⟩
              · obtain ⟨g5, o5, hoo⟩ : ∃ g5 o5, oo = some ⟨g5, o5, none⟩ := by
                  rcases HOWN.out.2 with ⟨_, h⟩ | ⟨g', o', cap', cur, he, h1, h2, _⟩
                  · exact absurd h hl0
                  · simp only [Value.slice.injEq] at he
                    exact ⟨g', o', he.1⟩
                subst hoo
                have hokO : ∀ j, j < O.length → okA (O.getD j A0) := fun j hj => by
                  have : O.getD j A0 = O[j] := by simp [hj]
                  rw [this]; exact HPO.out _ (HO.out.1 _ (List.getElem_mem hj))
                have cN := worth_some O lo HLO.out (by omega) (by omega) g5 o5 oc k wr hk1 hk2 HOWN.out.ans hokO HO.out.2
                have hle := HBL.out O HO.out.1 HO.out.2 (by rw [HLO.out]; omega)
                have hbd := wqs_bound k O hk1 hk2 hokO HO.out.2 (O.length - 1) (by rw [HLO.out]; omega)
                rw [HLO.out] at hle hbd
                obtain ⟨z, hz⟩ : ∃ z, z = wqs k O (lo - 1) := ⟨_, rfl⟩
                rw [← hz] at cN hle hbd
                clear hz hokO
                have hoz : FloatKind.f64.format.order (fq z) (fq Q) = some (compare z Q) := order_fq z Q (by have := HP53.out; omega) (by have := HP53.out; omega)
                have hcmp : compare z Q = .lt ∨ compare z Q = .eq := by
                  by_cases h : z < Q
                  · left; simp [compare, compareOfLessAndEq, h]
                  · right; have : z = Q := by omega
                    subst this; simp [compare, compareOfLessAndEq]
                clear hbd
                rcases hcmp with hcmp | hcmp
                · rw [hcmp] at hoz
                  go_wp2_with fail
                  refine cN.mono ?_
                  rintro e w5 ⟨rfl, q5, rfl⟩
                  clear cN hcmp
                  go_wp2_with fail
                  go_ret
                  exact ⟨rfl, belDrewN HFB.out _⟩
                · rw [hcmp] at hoz
                  go_wp2_with fail
                  refine cN.mono ?_
                  rintro e w5 ⟨rfl, q5, rfl⟩
                  clear cN hcmp
                  go_wp2_with fail
                  go_ret
                  exact ⟨rfl, belDrewN HFB.out _⟩
end Go.Proofs.Ytilcmkiihefkkaa
