import Derived.Test.YtilcmkiihefkkaaRefH
set_option linter.unusedVariables false
set_option linter.unusedSimpArgs false
namespace Go.Proofs.Ytilcmkiihefkkaa
open Go.RowKit

theorem Try.info3 : (Try.prog.info? 3).map (fun i => (i.zero, i.size, i.bytes)) = some (some (.int .i64 0), 1, 8) := by kernel_rfl

/-- the two rows of numbers: the first i links are there -/
def DpR (wr : World) (gs n i : Nat) (T : List Lk) : Prop := ∃ cs ca : Array Value, wr.heap[gs]? = some (.cells cs 3 (0, 0)) ∧ wr.heap[gs + 1]? = some (.cells ca 3 (0, 0)) ∧ cs.size = n ∧ ca.size = n ∧ ∀ j, j < i → cs[j]? = some (.int .i64 (T.getD j Lk0).q) ∧ ca[j]? = some (.int .i64 (T.getD j Lk0).p)

/-- and the one at hand -/
def DpX (wr : World) (gs n i : Nat) (T : List Lk) (q p : Int) : Prop := ∃ cs ca : Array Value, wr.heap[gs]? = some (.cells cs 3 (0, 0)) ∧ wr.heap[gs + 1]? = some (.cells ca 3 (0, 0)) ∧ cs.size = n ∧ ca.size = n ∧ (∀ j, j < i → cs[j]? = some (.int .i64 (T.getD j Lk0).q) ∧ ca[j]? = some (.int .i64 (T.getD j Lk0).p)) ∧ cs[i]? = some (.int .i64 q) ∧ ca[i]? = some (.int .i64 p)

theorem DpX.r {wr : World} {gs n i : Nat} {T : List Lk} {q p : Int} (h : DpX wr gs n i T q p) : DpR wr gs n i T := by
  obtain ⟨cs, ca, h1, h2, h3, h4, h5, _⟩ := h
  exact ⟨cs, ca, h1, h2, h3, h4, h5⟩

theorem DpR.set {wr : World} {gs n i : Nat} {T : List Lk} (h : DpR wr gs n i T) (hi : i < n) (q p : Int) : DpX ((wr.setCell ⟨gs, i, none⟩ (.int .i64 q)).setCell ⟨gs + 1, i, none⟩ (.int .i64 p)) gs n i T q p := by
  obtain ⟨cs, ca, h1, h2, h3, h4, h5⟩ := h
  have u1 := Upd.of_setCell (i := i) (.int .i64 q) h1
  have h2' : (wr.setCell ⟨gs, i, none⟩ (.int .i64 q)).heap[gs + 1]? = some (.cells ca 3 (0, 0)) := (u1.other _ (by omega)).trans h2
  have u2 := Upd.of_setCell (i := i) (.int .i64 p) h2'
  refine ⟨_, _, (u2.other gs (by omega)).trans u1.here, u2.here, by simpa using h3, by simpa using h4, ?_, ?_, ?_⟩
  · intro j hj
    rw [Array.getElem?_setIfInBounds_ne (by omega), Array.getElem?_setIfInBounds_ne (by omega)]
    exact h5 j hj
  · rw [Array.getElem?_setIfInBounds_self_of_lt (by omega)]
  · rw [Array.getElem?_setIfInBounds_self_of_lt (by omega)]

theorem DpX.next {wr : World} {gs n i : Nat} {T : List Lk} {q p : Int} (h : DpX wr gs n i T q p) (hq : (T.getD i Lk0).q = q) (hp : (T.getD i Lk0).p = p) : DpR wr gs n (i + 1) T := by
  obtain ⟨cs, ca, h1, h2, h3, h4, h5, h6, h7⟩ := h
  refine ⟨cs, ca, h1, h2, h3, h4, fun j hj => ?_⟩
  by_cases he : j = i
  · subst he; rw [hq, hp]; exact ⟨h6, h7⟩
  · exact h5 j (by omega)

theorem DpX.other {wr wx : World} {gs n i : Nat} {T : List Lk} {q p : Int} (h : DpX wr gs n i T q p) (h1 : wx.heap[gs]? = wr.heap[gs]?) (h2 : wx.heap[gs + 1]? = wr.heap[gs + 1]?) : DpX wx gs n i T q p := by
  obtain ⟨cs, ca, a1, a2, h3⟩ := h
  exact ⟨cs, ca, h1.trans a1, h2.trans a2, h3⟩

theorem DpX.lt {wr : World} {gs n i : Nat} {T : List Lk} {q p : Int} (h : DpX wr gs n i T q p) : gs + 1 < wr.heap.size := by
  obtain ⟨cs, ca, a1, a2, h3⟩ := h
  exact lt_of_block a2

theorem DpR.lt {wr : World} {gs n i : Nat} {T : List Lk} (h : DpR wr gs n i T) : gs + 1 < wr.heap.size := by
  obtain ⟨cs, ca, a1, a2, h3⟩ := h
  exact lt_of_block a2

theorem DpR.cells {wr : World} {gs n i : Nat} {T : List Lk} (h : DpR wr gs n i T) (j : Nat) (hj : j < i) : wr.cell? ⟨gs, j, none⟩ = some (.int .i64 (T.getD j Lk0).q) ∧ wr.cell? ⟨gs + 1, j, none⟩ = some (.int .i64 (T.getD j Lk0).p) := by
  obtain ⟨cs, ca, h1, h2, h3, h4, h5⟩ := h
  exact ⟨cell_at h1 (h5 j hj).1, cell_at h2 (h5 j hj).2⟩

theorem DpX.here {wr : World} {gs n i : Nat} {T : List Lk} {q p : Int} (h : DpX wr gs n i T q p) : wr.cell? ⟨gs, i, none⟩ = some (.int .i64 q) ∧ wr.cell? ⟨gs + 1, i, none⟩ = some (.int .i64 p) := by
  obtain ⟨cs, ca, h1, h2, h3, h4, h5, h6, h7⟩ := h
  exact ⟨cell_at h1 h6, cell_at h2 h7⟩

theorem DpR.any {wr : World} {gs n i : Nat} {T : List Lk} (h : DpR wr gs n i T) (j : Nat) (hj : j < n) : (∃ y, wr.cell? ⟨gs, j, none⟩ = some y) ∧ (∃ y, wr.cell? ⟨gs + 1, j, none⟩ = some y) ∧ wr.frozen? ⟨gs, j, none⟩ = false ∧ wr.frozen? ⟨gs + 1, j, none⟩ = false := by
  obtain ⟨cs, ca, h1, h2, h3, h4, h5⟩ := h
  exact ⟨⟨_, cell_at h1 (Array.getElem?_eq_getElem (by omega))⟩, ⟨_, cell_at h2 (Array.getElem?_eq_getElem (by omega))⟩, frozen_of_row _ _ _ _ _ h1, frozen_of_row _ _ _ _ _ h2⟩

theorem bk_more (T : List Lk) (n : Nat) (hT : ∀ i, i < n → (T.getD i Lk0).p < i) (f : Nat) (p : Int) (h1 : p < n) (h2 : p < f) : ∀ d, f ≤ d → bk T d p = bk T f p := by
  intro d hd
  induction d with
  | zero => have : f = 0 := by omega
            subst this; rfl
  | succ d ih =>
    by_cases he : f = d + 1
    · rw [he]
    · rw [bk_fuel T n hT d p h1 (by omega)]
      exact ih (by omega)

theorem acells_one (C : List (Int × Int)) : ∀ u ∈ acells C, u.oneCell' = true := by
  intro u hu
  unfold acells at hu
  simp only [List.mem_flatMap, List.mem_cons, List.not_mem_nil, or_false] at hu
  obtain ⟨x, _, rfl | rfl⟩ := hu <;> rfl

theorem qtr_ge (x y : Int × Int) (k : Int) (hx : okA x) (hy : okA y) (hf : fol x y) (hk : 1 ≤ k) : -20000 ≤ qtr x y k := by
  obtain ⟨a1, a2, a3, a4⟩ := hx
  obtain ⟨b1, b2, b3, b4⟩ := hy
  obtain ⟨f1, f2⟩ := hf
  have h : (apt (y.2 - x.2) (y.1 - x.1)).toNat < 1048576 := by unfold apt; omega
  have := bitLen_le20 _ h
  unfold qtr
  have e1 : 1 ≤ lst (y.2 - x.2) (y.1 - x.1) k := by unfold lst; omega
  have e2 : apt (y.2 - x.2) (y.1 - x.1) ≤ 10000 := by unfold apt; omega
  omega

set_option maxRecDepth 100000 in
set_option maxHeartbeats 4000000 in
theorem rchain_ok (L : List (Int × Int)) (n : Nat) (hn : L.length = n) (g o cap : Nat) (k : Int) (w : World) (hk1 : 1 ≤ k) (hk2 : k ≤ 12) (hL : n ≤ 400) (h0 : 0 < n) (hg : g < w.heap.size)
    (hA : ∀ j (hj : j < L.length), w.cell? ⟨g, o + j * 2, none⟩ = some (.int .i64 L[j].1) ∧ w.cell? ⟨g, o + j * 2 + 1, none⟩ = some (.int .i64 L[j].2))
    (hb : ∀ x ∈ L, okA x) :
    Calls Try.prog 23 #[.slice (some ⟨g, o, none⟩) n cap, .int .i64 k] w fun e w' => ∃ v, e = .returned (.tuple #[v, .float .f64 (fq (chQ k L)), .int .i64 0]) ∧ Below w.heap.size w w' ∧ OwnR w' w.heap.size 62 2 v (chL k L).length (acells (chL k L)) := by
  obtain ⟨i0, hi2, hz0, hz1, hz2⟩ := info_parts Try.info62
  obtain ⟨i3, hi3, hy0, hy1, hy2⟩ := info_parts Try.info3
  have HA : Hid (∀ j (hj : j < L.length), w.cell? ⟨g, o + j * 2, none⟩ = some (.int .i64 L[j].1) ∧ w.cell? ⟨g, o + j * 2 + 1, none⟩ = some (.int .i64 L[j].2)) := hA
  have HN : Hid (L.length = n) := hn
  have HB : Hid (∀ x ∈ L, okA x) := hb
  have hnI : ¬ (400 : Int) < n := by omega
  have hnZ : ¬ ((n : Int) = 0) := by omega
  clear hA hn hb
  go_enter Try.func23, Try.ntmps23
  go_wp2_with fail
  go_loopw [7] (fun iv wr => ∃ i : Nat, i ≤ n ∧ iv = .int .i64 i ∧ wr = w) (fun iv _ => n - (intOf iv).toNat)
  case atStart => exact ⟨0, Nat.zero_le _, rfl, by first | rfl | trivial⟩
  case round =>
    obtain ⟨i, hi, rfl, rfl⟩ := hrel
    by_cases hlt : i < n
    · have hltI : (i : Int) < n := by omega
      obtain ⟨c1, c2⟩ := HA.out i (by rw [HN.out]; exact hlt)
      obtain ⟨o1, o2, o3, o4⟩ := HB.out _ (List.getElem_mem (show i < L.length by rw [HN.out]; exact hlt))
      obtain ⟨xr, hxr⟩ : ∃ x, x = (L[i]'(by rw [HN.out]; exact hlt)).1 := ⟨_, rfl⟩
      obtain ⟨xp, hxp⟩ : ∃ x, x = (L[i]'(by rw [HN.out]; exact hlt)).2 := ⟨_, rfl⟩
      rw [← hxr] at c1 o1 o2
      rw [← hxp] at c2 o3 o4
      have h1 : ¬ xp < 0 := by omega
      have h2 : ¬ 10000 < xp := by omega
      have h3 : ¬ xr < 0 := by omega
      have h4 : ¬ 10000 < xr := by omega
      clear hxr hxp
      go_wp2_with fail
      go_roundw
      case rel => exact ⟨i + 1, by omega, by go_num, by first | rfl | trivial⟩
      case measure => simp [intOf]; omega
    · have he : i = n := by omega
      subst he
      obtain ⟨w0, hw0⟩ : ∃ x : World, x = wr := ⟨_, rfl⟩
      subst hw0
      go_wp2_with fail
      refine (rsorted_some L i HN.out g o cap w0 hL hg HA.out).mono ?_
      rintro e w1 ⟨v1, rfl, hb1, hown1⟩
      obtain ⟨S, hS⟩ : ∃ S, S = canon L := ⟨_, rfl⟩
      have HOK : Hid (∀ j (hj : j < S.length), okA S[j]) := fun j hj => by
        refine HB.out _ ((mem_canon L _).1 ?_)
        rw [← hS]; exact List.getElem_mem hj
      have hs1 : 0 < S.length := by rw [hS]; exact canon_ne L (fun h => by rw [h] at HN; have := HN.out; simp at this; omega)
      have hs2 : S.length ≤ 400 := by rw [hS]; exact Nat.le_trans (canon_length L) (by have := HN.out; omega)
      rw [← hS] at hown1
      obtain ⟨g1, o1, c1, hv1, hg1⟩ : ∃ g1 o1 c1, v1 = .slice (some ⟨g1, o1, none⟩) S.length c1 ∧ w0.heap.size ≤ g1 ∧ g1 < w1.heap.size := by
        rcases hown1.2 with ⟨_, h⟩ | ⟨g', o', cap', cur, he, h1, h2, _⟩
        · omega
        · exact ⟨g', o', cap', he, h1, lt_of_block h2⟩
      subst hv1
      have HTT : Hid (chL k L = (bk (tb k S S.length) S.length (mxi (tb k S S.length) S.length)).reverse ∧ chQ k L = ((tb k S S.length).getD (mxi (tb k S S.length) S.length) Lk0).q) := by
        rw [hS]; exact ⟨rfl, rfl⟩
      have hca := hown1.ans
      obtain ⟨ns, hns⟩ : ∃ ns, ns = S.length := ⟨_, rfl⟩
      have HNS : Hid (ns = S.length) := hns
      rw [← hns] at hs1 hs2 hown1 HTT ⊢
      have HOW1 : Hid (OwnR w1 w0.heap.size 62 2 (.slice (some ⟨g1, o1, none⟩) ns c1) ns (acells S)) := hown1
      have HCA : Hid (∀ j (hj : j < S.length), w1.cell? ⟨g1, o1 + j * 2, none⟩ = some (.int .i64 S[j].1) ∧ w1.cell? ⟨g1, o1 + j * 2 + 1, none⟩ = some (.int .i64 S[j].2)) := hca
      have HB1 : Hid (Below w0.heap.size w0 w1) := hb1
      obtain ⟨hg1a, hg1b⟩ := hg1
      clear hown1 hca hb1 hns HA HB HN hS
      obtain ⟨Z, hZ, hmk⟩ : ∃ Z : Array Value, Z.size = ns ∧ ∀ W : World, (Instr.makeSlice 108 (.int .i64 ns) (.int .i64 ns)).run Try.prog W = .ok (.slice (some ⟨W.heap.size, 0, none⟩) ns ns) (W.alloc (.cells Z 3)) := by
        refine ⟨madeCells (Value.int .i64 0).cells (ns * 1), by rw [size_madeCells]; omega, fun W => ?_⟩
        have := run_make (P := Try.prog) W 108 3 i3 (.int .i64 0) Try.underlying108 hi3 hy0 .i64 .i64 ns ns (by omega) (by omega) (by rw [hy2]; omega) (by omega)
        rw [hy1] at this
        simpa using this
      go_wp2_with fail
      obtain ⟨w2, hw2⟩ : ∃ x : World, x = (w1.alloc (.cells Z 3)).alloc (.cells Z 3) := ⟨_, rfl⟩
      have HGS : Hid (w2.heap[w1.heap.size]? = some (.cells Z 3 (0, 0))) := by
        rw [hw2]
        exact (Below.heap_alloc _ _ _ (by simp)).trans (heap_alloc_new w1 _)
      have HGA : Hid (w2.heap[w1.heap.size + 1]? = some (.cells Z 3 (0, 0))) := by
        rw [hw2]
        have := heap_alloc_new (w1.alloc (.cells Z 3)) (.cells Z 3 (0, 0))
        have e : (w1.alloc (.cells Z 3)).heap.size = w1.heap.size + 1 := by simp
        rw [e] at this
        exact this
      have HB2 : Hid (Below w1.heap.size w1 w2) := by
        rw [hw2]; exact ((Below.refl _ w1).alloc (Nat.le_refl _) _).alloc (by simp) _
      rw [← hw2]
      obtain ⟨gs, hgs⟩ : ∃ gs, gs = w1.heap.size := ⟨_, rfl⟩
      rw [← hgs] at HGS HGA hg1b ⊢
      have HGG : Hid (gs = w1.heap.size) := hgs
      have HR0 : Hid (DpR w2 gs ns 0 (tb k S ns)) := ⟨Z, Z, HGS.out, HGA.out, hZ, hZ, fun j hj => absurd hj (by omega)⟩
      have HT : Hid (∀ i, i < ns → (tb k S ns).getD i Lk0 = ⟨S.getD i (0, 0), (bst k (S.getD i (0, 0)) (tb k S ns) i).1, (bst k (S.getD i (0, 0)) (tb k S ns) i).2⟩) := by
        intro i hi
        have e := bst_congr k (S.getD i (0, 0)) (tb k S i) (tb k S ns) i (fun j hj => by rw [tb_getD k S j i hj, tb_getD k S j ns (by omega)])
        rw [tb_getD k S i ns hi, e]
      have HTB : Hid (∀ i, i < ns → 4 * k ≤ ((tb k S ns).getD i Lk0).q ∧ ((tb k S ns).getD i Lk0).q ≤ 4 * k * (i + 1) ∧ -1 ≤ ((tb k S ns).getD i Lk0).p ∧ ((tb k S ns).getD i Lk0).p < i) := tb_bounds k (by omega) S ns
      obtain ⟨T, hT⟩ : ∃ T, T = tb k S ns := ⟨_, rfl⟩
      rw [← hT] at HR0 HT HTB HTT
      clear hw2 hmk hgs HGS HGA hZ hT
      go_loopw [11, 12] (fun bv iv wx => ∃ ii : Nat, ii ≤ ns ∧ bv = .int .i64 (mxi T ii : Nat) ∧ iv = .int .i64 ii ∧ DpR wx gs ns ii T ∧ Below gs w1 wx) (fun _ iv _ => ns - (intOf iv).toNat)
      case atStart => exact ⟨0, Nat.zero_le _, rfl, rfl, HR0.out, by rw [HGG.out]; exact HB2.out⟩
      case round =>
        obtain ⟨ii, hii, rfl, rfl, hdp, hbe⟩ := hrel
        obtain ⟨w3, hw3⟩ : ∃ x : World, x = wr := ⟨_, rfl⟩
        subst hw3
        by_cases hlt2 : ii < ns
        · have hlt2I : (ii : Int) < ns := by omega
          have hSi : ii < S.length := by rw [← HNS.out]; exact hlt2
          obtain ⟨x, hx⟩ : ∃ x, x = S[ii] := ⟨_, rfl⟩
          have HX : Hid (x = S[ii]) := hx
          have HXD : Hid (S.getD ii (0, 0) = x) := by show S.getD ii (0, 0) = x; rw [hx]; simp [hSi]
          have HXO : Hid (okA x) := by rw [hx]; exact HOK.out ii hSi
          obtain ⟨⟨y0, f0⟩, ⟨y1, f1⟩, f2, f3⟩ := hdp.any ii hlt2
          have HX0 : Hid (DpX ((w3.setCell ⟨gs, ii, none⟩ (.int .i64 (4 * k))).setCell ⟨gs + 1, ii, none⟩ (.int .i64 (-1))) gs ns ii T (bst k x T 0).1 (bst k x T 0).2) := hdp.set hlt2 (4 * k) (-1)
          have HBE : Hid (Below gs w1 ((w3.setCell ⟨gs, ii, none⟩ (.int .i64 (4 * k))).setCell ⟨gs + 1, ii, none⟩ (.int .i64 (-1)))) := (hbe.setCell (p := ⟨gs, ii, none⟩) (Nat.le_refl _) _).setCell (p := ⟨gs + 1, ii, none⟩) (Nat.le_succ _) _
          clear hdp hbe hx
          go_wp2_with fail
          go_loopw [13] (fun jv wx => ∃ j : Nat, j ≤ ii ∧ jv = .int .i64 j ∧ DpX wx gs ns ii T (bst k x T j).1 (bst k x T j).2 ∧ Below gs w1 wx) (fun jv _ => ii - (intOf jv).toNat)
          case atStart => exact ⟨0, Nat.zero_le _, rfl, HX0.out, HBE.out⟩
          case round =>
            clear HX0 HBE f0 f1 f2 f3
            obtain ⟨j, hj, rfl, hdx, hbx⟩ := hrel
            by_cases hjl : j < ii
            · have hjlI : (j : Int) < ii := by omega
              have hjn : (j : Int) < ns := by omega
              have hSj : j < S.length := by rw [← HNS.out]; omega
              obtain ⟨y, hy⟩ : ∃ y, y = S[j] := ⟨_, rfl⟩
              have HYD : Hid ((T.getD j Lk0).a = y) := by
                show (T.getD j Lk0).a = y
                rw [HT.out j (by omega), hy]; simp [hSj]
              have hyo : okA y := by rw [hy]; exact HOK.out j hSj
              obtain ⟨cy1, cy2⟩ := HCA.out j hSj
              obtain ⟨cx1, cx2⟩ := HCA.out ii hSi
              rw [← hy] at cy1 cy2
              rw [← HX.out] at cx1 cx2
              rw [← hbx.cell hg1b] at cy1 cy2 cx1 cx2
              obtain ⟨yr, yp⟩ := y
              obtain ⟨xr, xp⟩ := x
              simp only at cy1 cy2 cx1 cx2
              obtain ⟨sj, hsj⟩ : ∃ q, q = (T.getD j Lk0).q := ⟨_, rfl⟩
              obtain ⟨bq, hbq⟩ : ∃ q, q = (bst k (xr, xp) T j).1 := ⟨_, rfl⟩
              have cs1 := (hdx.r.cells j hjl).1
              have cs2 := hdx.here.1
              rw [← hsj] at cs1
              rw [← hbq] at cs2
              have hsb := HTB.out j (by omega)
              rw [← hsj] at hsb
              have hsb1 : 0 ≤ sj := by omega
              have hsb2 : sj ≤ 20000 := by
                have h1 := hsb.2.1
                have : 4 * k * ((j : Int) + 1) ≤ 48 * 401 := Int.mul_le_mul (by omega) (by omega) (by omega) (by omega)
                omega
              have HDX : Hid (DpX wr gs ns ii T (bst k (xr, xp) T j).1 (bst k (xr, xp) T j).2) := hdx
              have HBX : Hid (Below gs w1 wr) := hbx
              have HSJ : Hid (sj = (T.getD j Lk0).q) := hsj
              have HBQ : Hid (bq = (bst k (xr, xp) T j).1) := hbq
              have hlts := hdx.lt
              clear hy hsb hdx hbx hsj hbq
              by_cases h1 : yp < xp
              · by_cases h2 : yr < xr
                · have hf : fol (yr, yp) (xr, xp) := ⟨h1, h2⟩
                  obtain ⟨Q, hQ⟩ : ∃ Q, Q = qtr (yr, yp) (xr, xp) k := ⟨_, rfl⟩
                  have hQ1 : Q ≤ 48 := by rw [hQ]; exact Int.le_trans (qtr_le _ _ _) (by omega)
                  have hQ2 : -20000 ≤ Q := by rw [hQ]; exact qtr_ge _ _ _ hyo HXO.out hf hk1
                  have HQ : Hid (Q = qtr (yr, yp) (xr, xp) k) := hQ
                  have cC : ∀ W, Calls Try.prog 44 #[.agg #[.int .i64 yr, .int .i64 yp], .agg #[.int .i64 xr, .int .i64 xp], .int .i64 k] W fun e w' => e = .returned (.int .i64 Q) ∧ Below W.heap.size W w' := fun W => by
                    rw [hQ]; exact rquarters_any (yr, yp) (xr, xp) k W hyo HXO.out hf hk1 hk2
                  clear hQ
                  go_wp2_with fail
                  go_quiet (fail)
                  rename_i nq
                  obtain ⟨w4, hw4⟩ : ∃ x : World, x = wr.drewN nq := ⟨_, rfl⟩
                  rw [← hw4]
                  have HD1 : Hid (DpX w4 gs ns ii T (bst k (xr, xp) T j).1 (bst k (xr, xp) T j).2) := by rw [hw4]; exact HDX.out.other rfl rfl
                  have HB4 : Hid (Below gs w1 w4) := by rw [hw4]; exact belDrewN HBX.out _
                  have k1 := cell_regrown (show w4.cell? ⟨g1, o1 + j * 2, none⟩ = _ by rw [hw4]; exact cy1)
                  have k2 := cell_regrown (show w4.cell? ⟨g1, o1 + j * 2 + 1, none⟩ = _ by rw [hw4]; exact cy2)
                  have k3 := cell_regrown (show w4.cell? ⟨g1, o1 + ii * 2, none⟩ = _ by rw [hw4]; exact cx1)
                  have k4 := cell_regrown (show w4.cell? ⟨g1, o1 + ii * 2 + 1, none⟩ = _ by rw [hw4]; exact cx2)
                  have k5 := cell_regrown (show w4.cell? ⟨gs, j, none⟩ = _ by rw [hw4]; exact cs1)
                  have cQ : ∀ d os, Calls Try.prog 44 #[.agg #[.int .i64 yr, .int .i64 yp], .agg #[.int .i64 xr, .int .i64 xp], .int .i64 k] (Sort.grow (redrawn w4 d) os) fun e w'' => e = .returned (.int .i64 Q) ∧ ∃ p : Regrown, w'' = Sort.grow (redrawn w4 p.d) p.os := fun d os => Calls.regrown_of (cC _)
                  have hlt4 : gs + 1 < w4.heap.size := HD1.out.lt
                  have c4 := HD1.out.here.1
                  rw [← HBQ.out] at c4
                  clear hw4 HDX HBX cy1 cy2 cx1 cx2 cs1 cs2 hlts
                  go_wp2_with fail
                  refine wp_region_quiet_below (by kernel_rfl) (by kernel_rfl) ?_
                  repeat (go_big_quiet_step (exact cQ _ _))
                  refine wpQuiet_nil ?_
                  intro w5 hw'
                  have hb5 : Below w4.heap.size w4 w5 := by
                    obtain ⟨pq, hw''⟩ := hw'
                    rw [hw'']; exact below_regrown w4 pq.d pq.os
                  have c5 : w5.cell? ⟨gs, ii, none⟩ = some (.int .i64 bq) := by rw [hb5.cell (show gs < _ by omega)]; exact c4
                  have hd5 : DpX w5 gs ns ii T (bst k (xr, xp) T j).1 (bst k (xr, xp) T j).2 := HD1.out.other (hb5.block _ (by omega)) (hb5.block _ (by omega))
                  have HD5 : Hid (DpX w5 gs ns ii T (bst k (xr, xp) T j).1 (bst k (xr, xp) T j).2) := hd5
                  have HB5 : Hid (Below gs w1 w5) := HB4.out.trans (hb5.mono (by omega))
                  have HF : Hid (fol (yr, yp) (xr, xp)) := hf
                  obtain ⟨_, ⟨y1, f1⟩, f2, f3⟩ := hd5.r.any ii hlt2
                  clear hw' hb5 k1 k2 k3 k4 k5 cQ cC c4 hd5
                  by_cases hgt : bq < sj + Q
                  · go_wp2_with fail
                    go_roundw
                    case rel =>
                      have e : bst k (xr, xp) T (j + 1) = (sj + Q, (j : Int)) := by
                        rw [bst, if_pos, ← HSJ.out, HYD.out, ← HQ.out]
                        rw [HYD.out, ← HBQ.out, ← HSJ.out, ← HQ.out]
                        exact ⟨HF.out, hgt⟩
                      refine ⟨j + 1, by omega, by go_num, ?_, (HB5.out.setCell (p := ⟨gs, ii, none⟩) (Nat.le_refl _) _).setCell (p := ⟨gs + 1, ii, none⟩) (Nat.le_succ _) _⟩
                      rw [e]
                      exact HD5.out.r.set hlt2 _ _
                    case measure => simp [intOf]; omega
                  · go_wp2_with fail
                    go_roundw
                    case rel =>
                      have e : bst k (xr, xp) T (j + 1) = bst k (xr, xp) T j := by
                        rw [bst, if_neg]
                        rw [HYD.out, ← HBQ.out, ← HSJ.out, ← HQ.out]
                        exact fun h => hgt h.2
                      refine ⟨j + 1, by omega, by go_num, ?_, HB5.out⟩
                      rw [e]
                      exact HD5.out
                    case measure => simp [intOf]; omega
                · go_wp2_with fail
                  go_quiet (fail)
                  go_wp2_with fail
                  go_roundw
                  case rel =>
                    have e : bst k (xr, xp) T (j + 1) = bst k (xr, xp) T j := by
                      rw [bst, if_neg]
                      rw [HYD.out]
                      exact fun h => by have := h.1.2; simp only at this; omega
                    refine ⟨j + 1, by omega, by go_num, ?_, belDrewN HBX.out _⟩
                    rw [e]
                    exact HDX.out.other rfl rfl
                  case measure => simp [intOf]; omega
              · have h1d : decide (yp < xp) = false := decide_eq_false h1
                go_wp2_with fail
                go_quiet (fail)
                go_wp2_with fail
                go_roundw
                case rel =>
                  have e : bst k (xr, xp) T (j + 1) = bst k (xr, xp) T j := by
                    rw [bst, if_neg]
                    rw [HYD.out]
                    exact fun h => by have := h.1.1; simp only at this; omega
                  refine ⟨j + 1, by omega, by go_num, ?_, belDrewN HBX.out _⟩
                  rw [e]
                  exact HDX.out.other rfl rfl
                case measure => simp [intOf]; omega
            · have hje : j = ii := by omega
              subst hje
              have hti := HT.out j hlt2
              rw [HXD.out] at hti
              have hq1 : (T.getD j Lk0).q = (bst k x T j).1 := by rw [hti]
              have hp1 : (T.getD j Lk0).p = (bst k x T j).2 := by rw [hti]
              obtain ⟨qi, hqi⟩ : ∃ q, q = (T.getD j Lk0).q := ⟨_, rfl⟩
              obtain ⟨sb, hsb⟩ : ∃ q, q = (T.getD (mxi T j) Lk0).q := ⟨_, rfl⟩
              have c1' := hdx.here.1
              rw [← hq1, ← hqi] at c1'
              have hmx : mxi T j < ns ∧ wr.cell? ⟨gs, mxi T j, none⟩ = some (.int .i64 sb) := by
                by_cases hj0 : 0 < j
                · have := mxi_lt T j hj0
                  refine ⟨by omega, ?_⟩
                  rw [hsb]; exact (hdx.r.cells _ this).1
                · have hj00 : j = 0 := by omega
                  subst hj00
                  refine ⟨by simp [mxi]; omega, ?_⟩
                  have : mxi T 0 = 0 := rfl
                  rw [hsb, this, hq1]
                  exact hdx.here.1
              have HDN : Hid (DpR wr gs ns (j + 1) T) := hdx.next hq1 hp1
              have HBX : Hid (Below gs w1 wr) := hbx
              obtain ⟨hm1, hm2⟩ := hmx
              have HSB : Hid (sb = (T.getD (mxi T j) Lk0).q) := hsb
              have HQI : Hid (qi = (T.getD j Lk0).q) := hqi
              obtain ⟨mb, hmb⟩ : ∃ mb, mb = mxi T j := ⟨_, rfl⟩
              have HMB : Hid (mb = mxi T j) := hmb
              rw [← hmb] at hm1 hm2 ⊢
              have hm1I : (mb : Int) < ns := by omega
              clear hti hq1 hp1 hqi hsb hdx hbx hmb
              by_cases hgt : sb < qi
              · go_wp2_with fail
                go_quiet (fail)
                go_wp2_with fail
                go_roundw
                case rel =>
                  refine ⟨j + 1, by omega, ?_, by go_num, ?_, belDrewN HBX.out _⟩
                  · have : mxi T (j + 1) = j := by
                      rw [mxi, if_pos]
                      rw [← HSB.out, ← HQI.out]; exact hgt
                    rw [this]
                  · obtain ⟨cs, ca, h⟩ := HDN.out
                    exact ⟨cs, ca, h⟩
                case measure => simp [intOf]; omega
              · go_wp2_with fail
                go_quiet (fail)
                go_wp2_with fail
                go_roundw
                case rel =>
                  refine ⟨j + 1, by omega, ?_, by go_num, ?_, belDrewN HBX.out _⟩
                  · have : mxi T (j + 1) = mb := by
                      rw [mxi, if_neg, HMB.out]
                      rw [← HSB.out, ← HQI.out]; omega
                    rw [this]
                  · obtain ⟨cs, ca, h⟩ := HDN.out
                    exact ⟨cs, ca, h⟩
                case measure => simp [intOf]; omega
        · have hie : ii = ns := by omega
          subst hie
          have hml := mxi_lt T ii hs1
          obtain ⟨mb, hmb⟩ : ∃ mb, mb = mxi T ii := ⟨_, rfl⟩
          rw [← hmb] at HTT hml ⊢
          have HPB : Hid (∀ i, i < ii → (T.getD i Lk0).p < i) := fun i hi => (HTB.out i hi).2.2.2
          have HBK : Hid (bk T ii mb = bk T (mb + 1) mb) := bk_more T ii HPB.out (mb + 1) mb (by omega) (by omega) ii (by omega)
          have HDP : Hid (DpR w3 gs ii ii T) := hdp
          have HBE : Hid (Below gs w1 w3) := hbe
          have hg01 : w0.heap.size ≤ gs := by rw [HGG.out]; exact HB1.out.size
          have hlt3 := hdp.lt
          clear hmb hdp hbe
          go_wp2_with fail
          go_loopw [15, 16] (fun ov pv wx => ∃ (p : Int) (C : List (Int × Int)), pv = .int .i64 p ∧ -1 ≤ p ∧ p < ii ∧ C.length + (p + 1).toNat ≤ ii ∧ Hid ((bk T (p + 1).toNat p).reverse ++ C = (bk T ii mb).reverse) ∧ wx.ownsRow gs 62 2 ov C.length (acells C) ∧ DpR wx gs ii ii T ∧ Below gs w1 wx) (fun _ pv _ => (intOf pv + 1).toNat)
          case atStart =>
            refine ⟨mb, [], rfl, by omega, by omega, by simp; omega, ?_, World.ownsRow_nil _ _ _ _, HDP.out, HBE.out⟩
            show _ = _
            rw [HBK.out, List.append_nil]
            congr 2
          case round =>
            obtain ⟨p, C, rfl, hp1, hp2, hCl, HC, hown, hdp, hbe⟩ := hrel
            clear HDP HBE
            by_cases hp0 : 0 ≤ p
            · obtain ⟨pn, rfl⟩ : ∃ pn : Nat, p = pn := ⟨p.toNat, by omega⟩
              have hSp : pn < S.length := by rw [← HNS.out]; omega
              obtain ⟨cy1, cy2⟩ := HCA.out pn hSp
              rw [← hbe.cell hg1b] at cy1 cy2
              have cp := (hdp.cells pn (by omega)).2
              obtain ⟨y, hy⟩ : ∃ y, y = S[pn] := ⟨_, rfl⟩
              have HYD : Hid ((T.getD pn Lk0).a = y) := by
                show (T.getD pn Lk0).a = y
                rw [HT.out pn (by omega), hy]; simp [hSp]
              rw [← hy] at cy1 cy2
              obtain ⟨yr, yp⟩ := y
              simp only at cy1 cy2
              obtain ⟨pp, hpp⟩ : ∃ pp, pp = (T.getD pn Lk0).p := ⟨_, rfl⟩
              rw [← hpp] at cp
              have hpb := HTB.out pn (by omega)
              rw [← hpp] at hpb
              have HPP : Hid (pp = (T.getD pn Lk0).p) := hpp
              have HST : Hid (bk T ((pn : Int) + 1).toNat pn = (yr, yp) :: bk T (pp + 1).toNat pp) := by
                show _ = _
                have e1 : ((pn : Int) + 1).toNat = pn + 1 := by omega
                rw [e1]
                show (if (pn : Int) < 0 then [] else _) = _
                rw [if_neg (by omega), Int.toNat_natCast, HYD.out, ← hpp]
                congr 1
                exact bk_more T ii HPB.out (pp + 1).toNat pp (by omega) (by omega) pn (by omega)
              have hpnI : (pn : Int) < ii := by omega
              have hltr := hdp.lt
              have HOWN : Hid (wr.ownsRow gs 62 2 _ C.length (acells C)) := hown
              have HDP : Hid (DpR wr gs ii ii T) := hdp
              have HBE : Hid (Below gs w1 wr) := hbe
              have hLit : (wr.alloc (.cells #[.int .i64 yr, .int .i64 yp] 62)).ownsRow gs 62 2 (.slice (some ⟨wr.heap.size, 0, none⟩) 1 1) 1 [.int .i64 yr, .int .i64 yp] := World.ownsRow_lit wr #[.int .i64 yr, .int .i64 yp] 1 (by omega) (by unfold maxLen; omega) rfl
              clear hy hpp hdp hbe
              rcases hown.2 with ⟨hov, hC0⟩ | ⟨g', cap', cur, hov, hbg, hgc, hcc, hcm, hcs, hct⟩
              · subst hov
                have hCn : C = [] := List.eq_nil_of_length_eq_zero hC0
                have hnone := run_append_owned_none (P := Try.prog) (wr.alloc (.cells #[.int .i64 yr, .int .i64 yp] 62)) gs 52 52 62 i0 2 Try.underlying52 hi2 _ 1 _ hLit
                clear hown
                go_wp2_with fail
                go_roundw
                case rel =>
                  refine ⟨pp, [(yr, yp)], rfl, by omega, by omega, by simp; omega, ?_, hLit, ?_, HBE.out.alloc (by omega) _⟩
                  · show _ = _
                    rw [← HC.out, HST.out, hCn]; simp
                  · obtain ⟨cs, ca, a1, a2, h3⟩ := HDP.out
                    exact ⟨cs, ca, (Below.heap_alloc _ _ _ (by omega)).trans a1, (Below.heap_alloc _ _ _ (by omega)).trans a2, h3⟩
                case measure => simp [intOf]; omega
              · subst hov
                have hcl : ∀ j u, (acells C)[j]? = some u → (wr.alloc (.cells #[.int .i64 yr, .int .i64 yp] 62)).cell? ((⟨g', 0, none⟩ : Addr).add j) = some u := by
                  intro j u hj
                  rw [Addr.add_lit, Nat.zero_add]
                  refine cell_at ((Below.heap_alloc _ _ _ (lt_of_block hgc)).trans hgc) ?_
                  rw [← hct, List.getElem?_take] at hj
                  split at hj
                  · simpa using hj
                  · exact absurd hj (by simp)
                have HCL : Hid (∀ j u, (acells C)[j]? = some u → (wr.alloc (.cells #[.int .i64 yr, .int .i64 yp] 62)).cell? ((⟨g', 0, none⟩ : Addr).add j) = some u) := hcl
                clear hown hcl
                obtain ⟨m, hm⟩ : ∃ m, m = C.length := ⟨_, rfl⟩
                have HM : Hid (m = C.length) := hm
                rw [← hm] at hCl HOWN hcc ⊢
                clear hm hct hcs hgc
                have hne1 : gs + 1 ≠ wr.heap.size := by omega
                have hne0 : gs ≠ wr.heap.size := by omega
                go_wp2_with (at_builtin; go_must (refine wpList_append_own _ rfl (.tmp 166) (.tmp 167) 52 rfl gs 62 i0 _ 2 16 Try.underlying52 hi2 hz0 hz1 hz2 rfl (by decide) _ 1 _ rfl hLit ⟨g', 0, none⟩ m cap' (acells C) rfl (by rw [acells_length, HM.out]) HCL.out (acells_one C) (by unfold maxLen; omega) (by omega) (by simp; omega) ?_; intro v' w5 hown5 hgr5 hnn; obtain ⟨ao5, c5, hv5⟩ := (OwnR.of_ownsRow hown5 (Nat.le_refl _)).shape; subst hv5; have cp5 : w5.cell? ⟨gs + 1, pn, none⟩ = some (.int .i64 pp) := (World.cell?_of_block (hgr5.block (gs + 1) (Nat.lt_trans hltr (by simp)) (fun h => hne1 (Option.some.inj h)))).trans ((World.cell?_of_block (Below.heap_alloc _ _ (gs + 1) (by omega))).trans cp)))
                go_roundw
                case rel =>
                  refine ⟨pp, (yr, yp) :: C, rfl, by omega, by omega, by rw [List.length_cons, ← HM.out]; omega, ?_, ?_, ?_, ?_⟩
                  · show _ = _
                    rw [← HC.out, HST.out]; simp
                  · have : ((yr, yp) :: C).length = 1 + m := by rw [List.length_cons, HM.out]; omega
                    rw [this]; exact hown5
                  · obtain ⟨cs, ca, a1, a2, h3⟩ := HDP.out
                    refine ⟨cs, ca, ?_, ?_, h3⟩
                    · rw [hgr5.block gs (by simp; omega) (fun h => hne0 (Option.some.inj h))]; exact (Below.heap_alloc _ _ _ (by omega)).trans a1
                    · rw [hgr5.block (gs + 1) (by simp; omega) (fun h => hne1 (Option.some.inj h))]; exact (Below.heap_alloc _ _ _ (by omega)).trans a2
                  · exact (HBE.out.alloc (by omega) _).grown hgr5 (by simp; omega) (fun q hq => by have h2 : wr.heap.size = q := Option.some.inj hq; omega)
                case measure => simp [intOf]; omega
            · have hpe : p = -1 := by omega
              subst hpe
              have cq := (hdp.cells mb hml).1
              obtain ⟨q, hq⟩ : ∃ q, q = (T.getD mb Lk0).q := ⟨_, rfl⟩
              rw [← hq] at cq
              have hqb := HTB.out mb hml
              rw [← hq] at hqb
              have hqb2 : q ≤ 20000 := by
                have h1 := hqb.2.1
                have : 4 * k * ((mb : Int) + 1) ≤ 48 * 401 := Int.mul_le_mul (by omega) (by omega) (by omega) (by omega)
                omega
              have hfc : floatOfInt .f64 q = fq (4 * q) := ofInt_fq q (by
                have : (1048576 : Nat) ≤ 2 ^ 50 := by decide
                omega)
              have hfd : ∀ W t, (binOp .quo t (.float .f64 (fq (4 * q))) (.float .f64 4616189618054758400)).run Try.prog W = .ok (.float .f64 (fq q)) W := fun W t =>
                run_float_arith W .quo t .f64 _ _ _ (by
                  have := quo_fq q 2 (by omega) (by
                    have : (1048576 : Nat) ≤ 2 ^ 50 := by decide
                    omega)
                  exact this)
              have hCC : C = (bk T ii mb).reverse := by
                have := HC.out
                simpa [bk] using this
              have HQ : Hid (chQ k L = q) := by rw [hq]; exact HTT.out.2
              have HLC : Hid (chL k L = C) := by rw [hCC]; exact HTT.out.1
              have hmbI : (mb : Int) < ii := by omega
              obtain ⟨ao, co, hov⟩ := (OwnR.of_ownsRow hown (Nat.le_refl _)).shape
              subst hov
              have HOWN : Hid (wr.ownsRow gs 62 2 (.slice ao C.length co) C.length (acells C)) := hown
              have HBE : Hid (Below w0.heap.size w0 wr) := HB1.out.trans (hbe.mono hg01)
              clear hown hbe hdp hq hqb hCC
              go_wp2_with fail
              go_quiet (fail)
              go_wp2_with fail
              go_ret3
              refine ⟨.slice ao C.length co, by rw [HQ.out]; rfl, belDrewN HBE.out _, ?_⟩
              rw [HLC.out]
              exact (OwnR.of_ownsRow HOWN.out hg01).other (fun _ _ _ => rfl)
end Go.Proofs.Ytilcmkiihefkkaa
