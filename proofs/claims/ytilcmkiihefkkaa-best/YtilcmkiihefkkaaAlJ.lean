import Derived.Test.YtilcmkiihefkkaaAlI
import Derived.Deep.RegionHeld3
set_option linter.unusedVariables false
set_option linter.unusedSimpArgs false
namespace Go.Proofs.Ytilcmkiihefkkaa
open Go.RowKit Go.Shelf Go.Lib

theorem run_store_flt4 (P : Program) (w : World) (a : Addr) (m : Mode) (k : FloatKind) (b : Nat) : (store a (.float k b) m).run P w = stored P w a (.float k b) m := run_store P w a _ m rfl

attribute [local go_sem] run_store_flt4

theorem OwnR.base {w : World} {b b' : Nat} {e : TypeId} {size : Nat} {v : Value} {n : Nat} {xs : List Value} (h : OwnR w b e size v n xs) (hb : b' ≤ b) : OwnR w b' e size v n xs := by
  obtain ⟨h0, h⟩ := h
  refine ⟨h0, ?_⟩
  rcases h with h | ⟨g, o, cap, cur, h1, h2, h3⟩
  · exact Or.inl h
  · exact Or.inr ⟨g, o, cap, cur, h1, Nat.le_trans hb h2, h3⟩

set_option maxHeartbeats 4000000 in
set_option maxRecDepth 100000 in
theorem achain_ok (L : List (Int × Int)) (n : Nat) (hn : L.length = n) (ao : Option Addr) (cap : Nat) (k : Int) (w : World) (hA : RdA w ao L) (he : errC L k = 0) :
    Calls Try.prog 25 #[.slice ao n cap, .int .i64 k] w fun e w' => ∃ v, e = .returned (.tuple #[v, .float .f64 (fq (chQ k L)), .int .i64 0]) ∧ Below w.heap.size w w' ∧ OwnR w' w.heap.size 62 2 v (chL k L).length (acells (chL k L)) := by
  have cC := chainError_any L n hn ao cap k w hA
  rw [he] at cC
  obtain ⟨hk1, hk2, h4, h0, hok⟩ : 1 ≤ k ∧ k ≤ 12 ∧ n ≤ 400 ∧ 0 < n ∧ ∀ x ∈ L, okA x := by
    unfold errC at he
    by_cases hk : k < 1 ∨ 12 < k
    · rw [if_pos hk] at he; omega
    · rw [if_neg hk] at he
      by_cases h4 : 400 < L.length
      · rw [if_pos h4] at he; omega
      · rw [if_neg h4] at he
        by_cases h0 : L.length = 0
        · rw [if_pos h0] at he; omega
        · rw [if_neg h0] at he
          by_cases hb : L.any outB = true
          · rw [if_pos hb] at he; omega
          · refine ⟨by omega, by omega, by omega, by omega, ?_⟩
            apply Classical.byContradiction
            intro hx
            exact hb ((any_outB L).2 hx)
  rcases hA with hA | ⟨g, o, rfl, hg, hA⟩
  · rw [hA] at hn; simp at hn; omega
  · have HA : Hid (∀ j (hj : j < L.length), w.cell? ⟨g, o + j * 2, none⟩ = some (.int .i64 L[j].1) ∧ w.cell? ⟨g, o + j * 2 + 1, none⟩ = some (.int .i64 L[j].2)) := hA
    have HOK : Hid (∀ x ∈ L, okA x) := hok
    have HN : Hid (L.length = n) := hn
    have hm0 : 0 < (canon L).length := canon_ne L (fun h => by rw [h] at hn; simp at hn; omega)
    have hm4 : (canon L).length ≤ 400 := Nat.le_trans (canon_length L) (by omega)
    have HQ : Hid (chQ k L = ((tb k (canon L) (canon L).length).getD (mxi (tb k (canon L) (canon L).length) (canon L).length) Lk0).q ∧ chL k L = (bk (tb k (canon L) (canon L).length) (canon L).length (mxi (tb k (canon L) (canon L).length) (canon L).length)).reverse) := ⟨rfl, rfl⟩
    clear hA hok hn he
    go_enter Try.func25, Try.ntmps25
    go_wp2_with (go_at_call 45; refine cC.mono ?_; rintro e w1 ⟨rfl, hb1⟩)
    have hs1 := hb1.size
    have hgw : g < (w1.alloc (.cells #[.int .i64 k, .slice none 0 0] 113)).heap.size := by simp; omega
    have hB1' : Below w1.heap.size w1 (w1.alloc (.cells #[.int .i64 k, .slice none 0 0] 113)) := (Below.refl _ _).alloc (Nat.le_refl _) _
    have hEA := eachAnchor_any L n HN.out w1.heap.size g o cap k (w1.alloc (.cells #[.int .i64 k, .slice none 0 0] 113)) hk1 hk2 h0 h4 hgw (by omega) (fun j hj => by
      have := HA.out j hj
      rw [hB1'.cell (show g < _ by omega), hB1'.cell (show g < _ by omega), hb1.cell hg, hb1.cell hg]
      exact this) HOK.out (heap_alloc_new w1 _)
    refine hEA.mono ?_
    rintro e w3 ⟨rfl, v, ht1, ht2, ht3⟩
    have HBW : Hid (Below w.heap.size w w3) := by
      have hsz := ht3.size
      simp at hsz
      refine ⟨ht3.os.trans hb1.os, ht3.tape.trans hb1.tape, ht3.output.trans hb1.output, by omega, fun j hj => ?_⟩
      rw [ht3.other j (by simp; omega) (by omega), Below.heap_alloc _ _ _ (by omega)]
      exact hb1.block j hj
    clear hEA hB1' hgw cC
    obtain ⟨S, hS⟩ : ∃ S, S = canon L := ⟨_, rfl⟩
    rw [← hS] at hm0 hm4 HQ ht2
    obtain ⟨m, hm⟩ : ∃ m, m = S.length := ⟨_, rfl⟩
    rw [← hm] at hm0 hm4 HQ ht2
    obtain ⟨Tb, hTb⟩ : ∃ T, T = w1.heap.size := ⟨_, rfl⟩
    rw [← hTb] at ht1 ⊢
    have hTB : ∀ j, j < m → 0 ≤ ((tb k S m).getD j Lk0).q ∧ ((tb k S m).getD j Lk0).q ≤ 100000 := fun j hj => by
      have hb := tb_bounds k (by omega) S m j hj
      refine ⟨by omega, ?_⟩
      have h1 := hb.2.1
      have : 4 * k * ((j : Int) + 1) ≤ 48 * 401 := Int.mul_le_mul (by omega) (by omega) (by omega) (by omega)
      omega
    have hTP : ∀ j, j < m → -1 ≤ ((tb k S m).getD j Lk0).p ∧ ((tb k S m).getD j Lk0).p < j := fun j hj => (tb_bounds k (by omega) S m j hj).2.2
    have hTl := tb_length k S m
    obtain ⟨T, hT⟩ : ∃ T, T = tb k S m := ⟨_, rfl⟩
    rw [← hT] at HQ ht2 hTB hTP hTl
    obtain ⟨g2, o2, c2, hv, hg2⟩ : ∃ g2 o2 c2, v = .slice (some ⟨g2, o2, none⟩) m c2 ∧ w3.heap[g2]? ≠ none := by
      rcases ht2.2 with ⟨_, h⟩ | ⟨g', o', cap', cur, he, h1, h2, _⟩
      · omega
      · exact ⟨g', o', cap', he, by rw [h2]; simp⟩
    subst hv
    have tc : w3.cell? ⟨Tb, 1, none⟩ = some (.slice (some ⟨g2, o2, none⟩) m c2) := cell_at ht1 rfl
    have hml := mxi_lt T m hm0
    obtain ⟨mb, hmb⟩ : ∃ x, x = mxi T m := ⟨_, rfl⟩
    have cM := maxFunc_any T m hTl hm0 (by omega) _ g2 o2 c2 w3 ht2 hTB
    rw [← hmb] at cM hml HQ
    obtain ⟨t, ht⟩ : ∃ t, t = T.getD mb Lk0 := ⟨_, rfl⟩
    rw [← ht] at cM HQ
    have hltT := lt_of_block ht1
    have cCh := fun (w4 : World) (hb4 : Below w3.heap.size w3 w4) => chain_any T m hTl (by omega) _ Tb g2 o2 c2 mb (.int .i64 k) w4 hml ((hb4.block Tb hltT).trans ht1) (ht2.other (fun g' _ hlt => hb4.block g' hlt)) hTP t ht
    obtain ⟨⟨tr, tp⟩, tq, tpp⟩ := t
    simp only at HQ cCh
    have cM' : Calls Try.prog 48 #[.slice (some ⟨g2, o2, none⟩) m c2, .func (.func 49) #[] #[]] w3 fun e w' => e = .returned (.agg #[.int .i64 tr, .int .i64 tp, .float .f64 (fq tq), .int .i64 tpp]) ∧ Below w3.heap.size w3 w' := cM
    clear cM hT hS hm ht1 ht2 ht3 hg2 hTB hTP hTl ht hmb hTb
    go_wp2_with (go_at_call 48; refine cM'.mono ?_; rintro e w4 ⟨rfl, hb4⟩)
    have hbb := heap_alloc_new w4 (.cells #[.int .i64 tr, .int .i64 tp, .float .f64 (fq tq), .int .i64 tpp] 118 (0, 0))
    have hb5 : Below w3.heap.size w3 (w4.alloc (.cells #[.int .i64 tr, .int .i64 tp, .float .f64 (fq tq), .int .i64 tpp] 118)) := hb4.alloc hb4.size _
    obtain ⟨Bb, hBb⟩ : ∃ b, b = w4.heap.size := ⟨_, rfl⟩
    rw [← hBb] at hbb ⊢
    clear hb4 cM' hBb tc
    generalize w4.alloc (.cells #[.int .i64 tr, .int .i64 tp, .float .f64 (fq tq), .int .i64 tpp] 118) = w5 at hbb hb5 ⊢
    have z0 : w5.cell? ⟨Bb, 0, none⟩ = some (.int .i64 tr) := cell_at hbb rfl
    have z1 : w5.cell? ⟨Bb, 1, none⟩ = some (.int .i64 tp) := cell_at hbb rfl
    have z2 : w5.cell? ⟨Bb, 2, none⟩ = some (.float .f64 (fq tq)) := cell_at hbb rfl
    have z3 : w5.cell? ⟨Bb, 3, none⟩ = some (.int .i64 tpp) := cell_at hbb rfl
    have hBl := lt_of_block hbb
    have c5 := cCh w5.drew hb5.drew
    have HB5 : Hid (Below w.heap.size w w5) := HBW.out.trans (hb5.mono HBW.out.size)
    clear hbb cCh hb5
    go_region_held3 (fun w' => w'.cell? ⟨Bb, 0, none⟩ = some (.int .i64 tr) ∧ w'.cell? ⟨Bb, 1, none⟩ = some (.int .i64 tp) ∧ w'.cell? ⟨Bb, 2, none⟩ = some (.float .f64 (fq tq)) ∧ w'.cell? ⟨Bb, 3, none⟩ = some (.int .i64 tpp)) (go_keep) ((go_at_call 50; refine c5.mono ?_; rintro e w6 ⟨v6, rfl, hv1, hv2⟩; have y0 : w6.cell? ⟨Bb, 0, none⟩ = some (.int .i64 tr) := (hv2.cell hBl).trans z0; have y1 : w6.cell? ⟨Bb, 1, none⟩ = some (.int .i64 tp) := (hv2.cell hBl).trans z1; have y2 : w6.cell? ⟨Bb, 2, none⟩ = some (.float .f64 (fq tq)) := (hv2.cell hBl).trans z2; have y3 : w6.cell? ⟨Bb, 3, none⟩ = some (.int .i64 tpp) := (hv2.cell hBl).trans z3))
    all_goals go_wp2_with fail
    all_goals go_ret3
    refine ⟨v6, by rw [HQ.out.1]; rfl, HB5.out.trans ((show Below w5.heap.size w5 w6 from ⟨hv2.os, hv2.tape, hv2.output, hv2.size, hv2.block⟩).mono HB5.out.size), ?_⟩
    rw [HQ.out.2]
    exact hv1.base HB5.out.size
end Go.Proofs.Ytilcmkiihefkkaa
