import Derived.Test.YtilcmkiihefkkabGreatDoorJk20
import Derived.Test.YtilcmkiihefkkabGreatDoorJk25
import Derived.Test.YtilcmkiihefkkabGreatDoorJk47
section
set_option linter.unusedVariables false
set_option linter.unusedSimpArgs false
set_option maxRecDepth 100000
namespace Go.Proofs.YtilcmkiihefkkabGreatDoor.Mn
open Go.RowKit
/-- a row that may be read -/
def RdR (w : World) (t : TypeId) (ao : Option Addr) (n : Nat) (xs : List Value) : Prop := n ≠ 0 → ∃ g o cur, ao = some ⟨g, o, none⟩ ∧ w.heap[g]? = some (.cells cur t (0, 0)) ∧ ∀ j u, xs[j]? = some u → cur[o + j]? = some u
theorem RdR.of {w : World} {base t size cp n : Nat} {ao : Option Addr} {xs : List Value} (h : OwnR w base t size (.slice ao n cp) n xs) : RdR w t ao n xs := fun h0 => by
  rcases h.2 with ⟨_, h'⟩ | ⟨g, o, cap, cur, e, _, hg, _, _, _, hc⟩
  · exact absurd h' h0
  · simp only [Value.slice.injEq] at e
    exact ⟨g, o, cur, e.1, hg, hc⟩
set_option maxHeartbeats 4000000 in
theorem sameHits_any (L : List W3) (n : Nat) (hn : L.length = n) (ao bo : Option Addr) (ac bc : Nat) (w : World) (ha : RdR w 78 ao n (wcells L)) (hb : RdR w 78 bo n (wcells L)) (hl : n ≤ 100000) :
    Calls Tryz.prog 14 #[.slice ao n ac, .slice bo n bc] w fun e w' => e = .returned (.bool true) ∧ Below w.heap.size w w' := by
  have HA : Hid (RdR w 78 ao n (wcells L)) := ha
  have HB : Hid (RdR w 78 bo n (wcells L)) := hb
  have HN : Hid (L.length = n) := hn
  clear ha hb hn
  go_enter Tryz.func14, Tryz.ntmps14
  go_wp2_with fail
  go_loopw [5] (fun i wr => ∃ j : Nat, j ≤ n ∧ i = .int .i64 j ∧ Below w.heap.size w wr) (fun i _ => n - (RowKit.intOf i).toNat)
  case atStart => exact ⟨0, Nat.zero_le _, rfl, Below.refl _ _⟩
  case round =>
    obtain ⟨j, hj, rfl, hbl⟩ := hrel
    have HBL : Hid (Below w.heap.size w wr) := hbl
    by_cases hlt : j < n
    · have hjL : j < L.length := by have := HN.out; omega
      obtain ⟨g, o, cur, rfl, hg, hc⟩ := HA.out (by omega)
      obtain ⟨g', o', cur', rfl, hg', hc'⟩ := HB.out (by omega)
      have hx := wcells_at L j hjL
      rw [Nat.mul_comm 3 j] at hx
      obtain ⟨x, hxe⟩ : ∃ x, x = L[j] := ⟨_, rfl⟩
      rw [← hxe] at hx
      have hgr := (hbl.block g (lt_of_block hg)).trans hg
      have hgr' := (hbl.block g' (lt_of_block hg')).trans hg'
      have a0 : wr.cell? ⟨g, o + j * 3, none⟩ = some (.int .i64 x.h) := cell_at hgr (hc _ _ hx.1)
      have a1 : wr.cell? ⟨g, o + j * 3 + 1, none⟩ = some (.int .i64 x.p) := cell_at hgr (hc _ _ hx.2.1)
      have a2 : wr.cell? ⟨g, o + j * 3 + 2, none⟩ = some (.bool x.b) := cell_at hgr (hc _ _ hx.2.2)
      have b0 : wr.cell? ⟨g', o' + j * 3, none⟩ = some (.int .i64 x.h) := cell_at hgr' (hc' _ _ hx.1)
      have b1 : wr.cell? ⟨g', o' + j * 3 + 1, none⟩ = some (.int .i64 x.p) := cell_at hgr' (hc' _ _ hx.2.1)
      have b2 : wr.cell? ⟨g', o' + j * 3 + 2, none⟩ = some (.bool x.b) := cell_at hgr' (hc' _ _ hx.2.2)
      clear hx hgr hgr' hg hg' hc hc' hbl hxe
      go_wp2_with fail
      refine wp_region_X 9 (fun W => W.cell? ⟨g, o + j * 3, none⟩ = some (.int .i64 x.h) ∧ W.cell? ⟨g, o + j * 3 + 1, none⟩ = some (.int .i64 x.p) ∧ W.cell? ⟨g, o + j * 3 + 2, none⟩ = some (.bool x.b) ∧ W.cell? ⟨g', o' + j * 3, none⟩ = some (.int .i64 x.h) ∧ W.cell? ⟨g', o' + j * 3 + 1, none⟩ = some (.int .i64 x.p) ∧ W.cell? ⟨g', o' + j * 3 + 2, none⟩ = some (.bool x.b)) (by kernel_rfl) ⟨a0, a1, a2, b0, b1, b2⟩ (fun hH => ?_)
      refine wpZ 0 hH ?_
      refine wpZ 1 hH ?_
      refine wpZ 2 hH ?_
      refine wpZ 3 hH ?_
      refine wpZ 4 hH ?_
      refine wpZ 5 hH ?_
      refine wpZ 6 hH ?_
      refine wpZ 7 hH ?_
      refine wpZ 8 hH ?_
      refine wpAnyX_done (by kernel_rfl) ?_
      clear hH
      go_wp2_with fail
      go_roundw
      case rel => exact ⟨j + 1, by omega, by go_num, ⟨HBL.out.os, HBL.out.tape, HBL.out.output, HBL.out.size, HBL.out.block⟩⟩
      case measure => simp [RowKit.intOf]; omega
    · go_wp2_with fail
      go_ret
      exact ⟨rfl, hbl⟩
theorem eq_float {P : Program} (d : Nat) (t : TypeId) (q : Nat) (k : FloatKind) (w : World) (h : P.underlying t = some (.float k)) (hq : FloatKind.f64.format.order q q = some .eq) : (Op.equalIn (d + 1) t (.float .f64 q) (.float .f64 q)).run P w = .ok true w := by
  have he : Op.floatEq .f64 q q = true := by
    unfold Op.floatEq
    rw [hq]
    rfl
  simp [Op.equalIn, run_underlying h, he]
/-- what is found and may be compared with itself -/
def FdSelf (f : FD) : Prop := FloatKind.f64.format.order (fq f.sq) (fq f.sq) = some .eq ∧ FloatKind.f64.format.order (fq f.oq) (fq f.oq) = some .eq ∧ FloatKind.f64.format.order f.id f.id = some .eq
theorem founds_at : ∀ (L : List FD) (j k : Nat) (h : j < L.length), k < 13 → (foundsC L)[j * 13 + k]? = (L[j].cells)[k]?
  | [], j, k, h, _ => by cases h
  | x :: t, 0, k, h, hk => by
    show (x.cells ++ foundsC t)[0 * 13 + k]? = _
    rw [Nat.zero_mul, Nat.zero_add, List.getElem?_append_left (show k < x.cells.length from hk)]
    rfl
  | x :: t, j + 1, k, h, hk => by
    show (x.cells ++ foundsC t)[(j + 1) * 13 + k]? = _
    rw [List.getElem?_append_right (show x.cells.length ≤ _ by show 13 ≤ _; omega), show (j + 1) * 13 + k - x.cells.length = j * 13 + k by show (j + 1) * 13 + k - 13 = _; omega, founds_at t j k (by simpa using h) hk]
    rfl
set_option maxHeartbeats 8000000 in
theorem sameFounds_any (L : List FD) (n : Nat) (hn : L.length = n) (ao bo : Option Addr) (ac bc : Nat) (w : World) (ha : RdR w 46 ao n (foundsC L)) (hb : RdR w 46 bo n (foundsC L)) (hl : n ≤ 100000) (hs : ∀ f ∈ L, FdSelf f) :
    Calls Tryz.prog 12 #[.slice ao n ac, .slice bo n bc] w fun e w' => e = .returned (.bool true) ∧ Below w.heap.size w w' := by
  have HA : Hid (RdR w 46 ao n (foundsC L)) := ha
  have HB : Hid (RdR w 46 bo n (foundsC L)) := hb
  have HN : Hid (L.length = n) := hn
  have HS := (show Hid _ from hs)
  clear ha hb hn hs
  go_enter Tryz.func12, Tryz.ntmps12
  go_wp2_with fail
  go_loopw [5] (fun i wr => ∃ j : Nat, j ≤ n ∧ i = .int .i64 j ∧ Below w.heap.size w wr) (fun i _ => n - (RowKit.intOf i).toNat)
  case atStart => exact ⟨0, Nat.zero_le _, rfl, Below.refl _ _⟩
  case round =>
    obtain ⟨j, hj, rfl, hbl⟩ := hrel
    have HBL : Hid (Below w.heap.size w wr) := hbl
    by_cases hlt : j < n
    · have hjL : j < L.length := by have := HN.out; omega
      obtain ⟨g, o, cur, rfl, hg, hc⟩ := HA.out (by omega)
      obtain ⟨g', o', cur', rfl, hg', hc'⟩ := HB.out (by omega)
      obtain ⟨x, hxe⟩ : ∃ x, x = L[j] := ⟨_, rfl⟩
      have hsf := HS.out x (by rw [hxe]; exact List.getElem_mem _)
      obtain ⟨q1, hq1⟩ : ∃ q1, q1 = fq x.sq := ⟨_, rfl⟩
      obtain ⟨q2, hq2⟩ : ∃ q2, q2 = fq x.oq := ⟨_, rfl⟩
      obtain ⟨sx, hsx⟩ : ∃ sx : ByteArray, sx = ⟨x.sc.toArray⟩ := ⟨_, rfl⟩
      have hx : ∀ k u, ([.string x.rd, .int .i64 x.fr, .int .i64 x.tl, .bool x.bk, .string x.sn, .int .i64 x.st, .int .i64 x.en, .float .f64 q1, .float .f64 q2, .int .i64 x.ql, .string sx, .int .i64 x.sm, .float .f64 x.id] : List Value)[k]? = some u → (foundsC L)[j * 13 + k]? = some u := by
        intro k u hk
        have hk13 : k < 13 := by
          rcases Nat.lt_or_ge k 13 with h | h
          · exact h
          · rw [List.getElem?_eq_none (by simpa using h)] at hk; cases hk
        rw [founds_at L j k hjL hk13, ← hxe]
        rw [hq1, hq2, hsx] at hk
        exact hk
      have f1 : FloatKind.f64.format.order q1 q1 = some .eq := by rw [hq1]; exact hsf.1
      have f2 : FloatKind.f64.format.order q2 q2 = some .eq := by rw [hq2]; exact hsf.2.1
      have f3 : FloatKind.f64.format.order x.id x.id = some .eq := hsf.2.2
      have hgr := (hbl.block g (lt_of_block hg)).trans hg
      have hgr' := (hbl.block g' (lt_of_block hg')).trans hg'
      have a0 : wr.cell? ⟨g, o + j * 13, none⟩ = some (.string x.rd) := cell_at hgr (hc _ _ (hx 0 _ rfl))
      have a1 : wr.cell? ⟨g, o + j * 13 + 1, none⟩ = some (.int .i64 x.fr) := cell_at hgr (hc _ _ (hx 1 _ rfl))
      have a2 : wr.cell? ⟨g, o + j * 13 + 2, none⟩ = some (.int .i64 x.tl) := cell_at hgr (hc _ _ (hx 2 _ rfl))
      have a3 : wr.cell? ⟨g, o + j * 13 + 3, none⟩ = some (.bool x.bk) := cell_at hgr (hc _ _ (hx 3 _ rfl))
      have a4 : wr.cell? ⟨g, o + j * 13 + 4, none⟩ = some (.string x.sn) := cell_at hgr (hc _ _ (hx 4 _ rfl))
      have a5 : wr.cell? ⟨g, o + j * 13 + 5, none⟩ = some (.int .i64 x.st) := cell_at hgr (hc _ _ (hx 5 _ rfl))
      have a6 : wr.cell? ⟨g, o + j * 13 + 6, none⟩ = some (.int .i64 x.en) := cell_at hgr (hc _ _ (hx 6 _ rfl))
      have a7 : wr.cell? ⟨g, o + j * 13 + 7, none⟩ = some (.float .f64 q1) := cell_at hgr (hc _ _ (hx 7 _ rfl))
      have a8 : wr.cell? ⟨g, o + j * 13 + 8, none⟩ = some (.float .f64 q2) := cell_at hgr (hc _ _ (hx 8 _ rfl))
      have a9 : wr.cell? ⟨g, o + j * 13 + 9, none⟩ = some (.int .i64 x.ql) := cell_at hgr (hc _ _ (hx 9 _ rfl))
      have a10 : wr.cell? ⟨g, o + j * 13 + 10, none⟩ = some (.string sx) := cell_at hgr (hc _ _ (hx 10 _ rfl))
      have a11 : wr.cell? ⟨g, o + j * 13 + 11, none⟩ = some (.int .i64 x.sm) := cell_at hgr (hc _ _ (hx 11 _ rfl))
      have a12 : wr.cell? ⟨g, o + j * 13 + 12, none⟩ = some (.float .f64 x.id) := cell_at hgr (hc _ _ (hx 12 _ rfl))
      have b0 : wr.cell? ⟨g', o' + j * 13, none⟩ = some (.string x.rd) := cell_at hgr' (hc' _ _ (hx 0 _ rfl))
      have b1 : wr.cell? ⟨g', o' + j * 13 + 1, none⟩ = some (.int .i64 x.fr) := cell_at hgr' (hc' _ _ (hx 1 _ rfl))
      have b2 : wr.cell? ⟨g', o' + j * 13 + 2, none⟩ = some (.int .i64 x.tl) := cell_at hgr' (hc' _ _ (hx 2 _ rfl))
      have b3 : wr.cell? ⟨g', o' + j * 13 + 3, none⟩ = some (.bool x.bk) := cell_at hgr' (hc' _ _ (hx 3 _ rfl))
      have b4 : wr.cell? ⟨g', o' + j * 13 + 4, none⟩ = some (.string x.sn) := cell_at hgr' (hc' _ _ (hx 4 _ rfl))
      have b5 : wr.cell? ⟨g', o' + j * 13 + 5, none⟩ = some (.int .i64 x.st) := cell_at hgr' (hc' _ _ (hx 5 _ rfl))
      have b6 : wr.cell? ⟨g', o' + j * 13 + 6, none⟩ = some (.int .i64 x.en) := cell_at hgr' (hc' _ _ (hx 6 _ rfl))
      have b7 : wr.cell? ⟨g', o' + j * 13 + 7, none⟩ = some (.float .f64 q1) := cell_at hgr' (hc' _ _ (hx 7 _ rfl))
      have b8 : wr.cell? ⟨g', o' + j * 13 + 8, none⟩ = some (.float .f64 q2) := cell_at hgr' (hc' _ _ (hx 8 _ rfl))
      have b9 : wr.cell? ⟨g', o' + j * 13 + 9, none⟩ = some (.int .i64 x.ql) := cell_at hgr' (hc' _ _ (hx 9 _ rfl))
      have b10 : wr.cell? ⟨g', o' + j * 13 + 10, none⟩ = some (.string sx) := cell_at hgr' (hc' _ _ (hx 10 _ rfl))
      have b11 : wr.cell? ⟨g', o' + j * 13 + 11, none⟩ = some (.int .i64 x.sm) := cell_at hgr' (hc' _ _ (hx 11 _ rfl))
      have b12 : wr.cell? ⟨g', o' + j * 13 + 12, none⟩ = some (.float .f64 x.id) := cell_at hgr' (hc' _ _ (hx 12 _ rfl))
      clear hx hgr hgr' hg hg' hc hc' hbl hxe hsf hq1 hq2 hsx
      have g1 := fun W => eq_float (P := Tryz.prog) 9998 22 q1 _ W Tryz.underlying22 f1
      have g2 := fun W => eq_float (P := Tryz.prog) 9998 22 q2 _ W Tryz.underlying22 f2
      have g3 := fun W => eq_float (P := Tryz.prog) 9998 22 x.id _ W Tryz.underlying22 f3
      clear f1 f2 f3
      go_wp2_with fail
      refine wp_region_X 9 (fun W => W.cell? ⟨g, o + j * 13, none⟩ = some (.string x.rd) ∧ W.cell? ⟨g, o + j * 13 + 1, none⟩ = some (.int .i64 x.fr) ∧ W.cell? ⟨g, o + j * 13 + 2, none⟩ = some (.int .i64 x.tl) ∧ W.cell? ⟨g, o + j * 13 + 3, none⟩ = some (.bool x.bk) ∧ W.cell? ⟨g, o + j * 13 + 4, none⟩ = some (.string x.sn) ∧ W.cell? ⟨g, o + j * 13 + 5, none⟩ = some (.int .i64 x.st) ∧ W.cell? ⟨g, o + j * 13 + 6, none⟩ = some (.int .i64 x.en) ∧ W.cell? ⟨g, o + j * 13 + 7, none⟩ = some (.float .f64 q1) ∧ W.cell? ⟨g, o + j * 13 + 8, none⟩ = some (.float .f64 q2) ∧ W.cell? ⟨g, o + j * 13 + 9, none⟩ = some (.int .i64 x.ql) ∧ W.cell? ⟨g, o + j * 13 + 10, none⟩ = some (.string sx) ∧ W.cell? ⟨g, o + j * 13 + 11, none⟩ = some (.int .i64 x.sm) ∧ W.cell? ⟨g, o + j * 13 + 12, none⟩ = some (.float .f64 x.id) ∧ W.cell? ⟨g', o' + j * 13, none⟩ = some (.string x.rd) ∧ W.cell? ⟨g', o' + j * 13 + 1, none⟩ = some (.int .i64 x.fr) ∧ W.cell? ⟨g', o' + j * 13 + 2, none⟩ = some (.int .i64 x.tl) ∧ W.cell? ⟨g', o' + j * 13 + 3, none⟩ = some (.bool x.bk) ∧ W.cell? ⟨g', o' + j * 13 + 4, none⟩ = some (.string x.sn) ∧ W.cell? ⟨g', o' + j * 13 + 5, none⟩ = some (.int .i64 x.st) ∧ W.cell? ⟨g', o' + j * 13 + 6, none⟩ = some (.int .i64 x.en) ∧ W.cell? ⟨g', o' + j * 13 + 7, none⟩ = some (.float .f64 q1) ∧ W.cell? ⟨g', o' + j * 13 + 8, none⟩ = some (.float .f64 q2) ∧ W.cell? ⟨g', o' + j * 13 + 9, none⟩ = some (.int .i64 x.ql) ∧ W.cell? ⟨g', o' + j * 13 + 10, none⟩ = some (.string sx) ∧ W.cell? ⟨g', o' + j * 13 + 11, none⟩ = some (.int .i64 x.sm) ∧ W.cell? ⟨g', o' + j * 13 + 12, none⟩ = some (.float .f64 x.id)) (by kernel_rfl) ⟨a0, a1, a2, a3, a4, a5, a6, a7, a8, a9, a10, a11, a12, b0, b1, b2, b3, b4, b5, b6, b7, b8, b9, b10, b11, b12⟩ (fun hH => ?_)
      refine wpZ 0 hH ?_
      refine wpZ 1 hH ?_
      refine wpZ 2 hH ?_
      refine wpZ 3 hH ?_
      refine wpZ 4 hH ?_
      refine wpZ 5 hH ?_
      refine wpZ 6 hH ?_
      refine wpZ 7 hH ?_
      refine wpZ 8 hH ?_
      refine wpAnyX_done (by kernel_rfl) ?_
      clear hH
      go_wp2_with fail
      go_roundw
      case rel => exact ⟨j + 1, by omega, by go_num, ⟨HBL.out.os, HBL.out.tape, HBL.out.output, HBL.out.size, HBL.out.block⟩⟩
      case measure => simp [RowKit.intOf]; omega
    · go_wp2_with fail
      go_ret
      exact ⟨rfl, hbl⟩
end Go.Proofs.YtilcmkiihefkkabGreatDoor.Mn
end
section
set_option linter.unusedVariables false
set_option linter.unusedSimpArgs false
set_option maxRecDepth 100000
namespace Go.Proofs.YtilcmkiihefkkabGreatDoor.Mn
open Go.RowKit Go.Shelf Go.Lib
theorem gat_len (R : List S2) (k W : Nat) (rb : ByteArray) (q : Int × Bool) : ((gat k W R rb).2 q).length ≤ (gat k W R rb).1 := by
  have key : ∀ (L : List W3) (st : Nat × (Int × Bool → List (Int × Int))), (∀ q, (st.2 q).length ≤ st.1) → ∀ q, ((L.foldl (gatW rb.size k (tabN k W R R.length)) st).2 q).length ≤ (L.foldl (gatW rb.size k (tabN k W R R.length)) st).1 := by
    intro L
    induction L with
    | nil => intro st h; exact h
    | cons x t ih =>
      intro st h
      refine ih _ ?_
      intro q
      unfold gatW
      split
      · exact Nat.le_trans (h q) (Nat.le_add_right _ _)
      · have inner : ∀ (M : List W3) (A : Int × Bool → List (Int × Int)) (n : Nat), (∀ q, (A q).length ≤ n) → ∀ q, ((M.foldl (fun A y => gatA rb.size k A x y) A) q).length ≤ n + M.length := by
          intro M
          induction M with
          | nil => intro A n h q; exact h q
          | cons y u ihu =>
            intro A n h q
            have := ihu (gatA rb.size k A x y) (n + 1) (gatA_len _ _ A x y n h) q
            simp only [List.foldl_cons, List.length_cons]
            omega
        exact inner _ _ _ h q
  exact key (wds k W rb) (0, fun _ => []) (fun _ => Nat.le_refl _) q
theorem fq_self (q : Int) (h0 : 0 ≤ q) (h1 : q ≤ 100000) : FloatKind.f64.format.order (fq q) (fq q) = some .eq := by
  have := order_fq q q (by have : (2 : Nat) ^ 53 = 9007199254740992 := by decide
                           omega) (by have : (2 : Nat) ^ 53 = 9007199254740992 := by decide
                                      omega)
  rw [show compare q q = .eq by simp [compare, compareOfLessAndEq]] at this
  exact this
set_option maxHeartbeats 1000000 in
theorem fdOf_self (k : Nat) (rn rb fn fb : ByteArray) (back : Bool) (r0 p0 r1 p1 : Nat) (sq oq : Int) (hs0 : 0 ≤ sq) (hs1 : sq ≤ 100000) (ho0 : 0 ≤ oq) (ho1 : oq ≤ 100000) (hz : fnE k rb fb back r0 p0 r1 p1 = 0) (hl : r0 ≤ r1) (hk : 1 ≤ k) (hb : r1 + k ≤ rb.size) : FdSelf (fdOf k rn rb fn fb back r0 p0 r1 p1 sq oq) := by
  have hal : 1 ≤ ((bsOf back rb).extract r0 (r1 + k)).data.toList.length := by
    have e : ((bsOf back rb).extract r0 (r1 + k)).data.toList.length = ((bsOf back rb).extract r0 (r1 + k)).size := rfl
    rw [e, ByteArray.size_extract, bsOf_size]
    omega
  unfold fnE at hz
  have e1 : (fdOf k rn rb fn fb back r0 p0 r1 p1 sq oq).sq = sq := rfl
  have e2 : (fdOf k rn rb fn fb back r0 p0 r1 p1 sq oq).oq = oq := rfl
  have e3 : (fdOf k rn rb fn fb back r0 p0 r1 p1 sq oq).id = shr (scN ((bsOf back rb).extract r0 (r1 + k)).data.toList (fb.extract p0 (p1 + k)).data.toList) (scLn ((bsOf back rb).extract r0 (r1 + k)).data.toList (fb.extract p0 (p1 + k)).data.toList) := rfl
  unfold FdSelf
  rw [e1, e2, e3]
  revert hz hal
  generalize ((bsOf back rb).extract r0 (r1 + k)).data.toList = la
  generalize (fb.extract p0 (p1 + k)).data.toList = lb
  intro hz hal
  have hok := scLn_ok la lb hz
  have hsh := (shr_facts (scN la lb) (scLn la lb) hok.2.2.1 (by omega) (by omega)).2
  revert hsh
  generalize shr (scN la lb) (scLn la lb) = y
  intro hsh
  exact ⟨fq_self _ hs0 hs1, fq_self _ ho0 ho1, hsh⟩
theorem fd_self (R : List S2) (k W sc : Nat) (rn rb : ByteArray) (f : FD) (hk1 : 1 ≤ k) (hk2 : k ≤ 12) (hW : 1 ≤ W) (hR : RefsOK R) (hg : good rb) (h : FindR R k W sc rn rb (some f)) : FdSelf f := by
  rcases h with ⟨_, h⟩ | ⟨_, _, h⟩ | ⟨hrb, hcnt, C, hC, hf⟩
  · cases h
  · cases h
  · cases C with
    | nil => cases hf
    | cons a t =>
      have hne := (hC.2 a).1 (List.mem_cons_self)
      have hlen : ((gat k W R rb).2 (sd a)).length ≤ 400 := Nat.le_trans (gat_len R k W rb (sd a)) hcnt
      obtain ⟨r0, p0, r1, p1, hF⟩ := cand_facts k W R rb (sd a) hk1 hk2 hW (fun x hx => ⟨(hR.1 x hx).1, (hR.1 x hx).2.2.2⟩) hg hrb hne hlen
      unfold findC at hf
      dsimp only at hf
      rw [hF.e0, hF.e1] at hf
      split at hf
      · cases hf
      · split at hf
        · rename_i hz
          have hf := Option.some.inj hf
          have hfn : fnE k rb (R.getD a.1.val S0).b a.2 r0 p0 r1 p1 = 0 := hz
          have hQ := ansQ_bd ((gat k W R rb).2 (sd a)) k
          have hO : 0 ≤ othQ (gat k W R rb).2 k (a :: t) ∧ othQ (gat k W R rb).2 k (a :: t) ≤ 100000 := by
            cases t with
            | nil => exact ⟨Int.le_refl _, by show (0 : Int) ≤ 100000; omega⟩
            | cons b u => exact ansQ_bd _ _
          rw [hf]
          exact fdOf_self k rn rb _ _ a.2 r0 p0 r1 p1 _ _ hQ.1 hQ.2 hO.1 hO.2 hfn hF.le0 hk1 hF.b0
        · cases hf
theorem getO (rs : List (Option FD)) (j : Nat) (h : j < rs.length) : rs.getD j none = rs[j] := by rw [List.getD_eq_getElem?_getD, List.getElem?_eq_getElem h]; rfl
/-- what two maps tell of the same reads is the same -/
theorem FindsR.uniq {R : List S2} {k W sc : Nat} {P : List S2} {rs rs' : List (Option FD)} (h : FindsR R k W sc P rs) (h' : FindsR R k W sc P rs') (hl : rs.length = rs'.length) : rs = rs' := by
  apply List.ext_getElem hl
  intro j h1 h2
  have a := h j h1
  have b := h' j h2
  rw [getO rs j h1] at a
  rw [getO rs' j h2] at b
  exact a.uniq b
theorem founds_self {R : List S2} {k W sc : Nat} {P : List S2} {rs : List (Option FD)} (hk1 : 1 ≤ k) (hk2 : k ≤ 12) (hW : 1 ≤ W) (hR : RefsOK R) (hP : ∀ x ∈ P, good x.b) (h : FindsR R k W sc P rs) (hl : rs.length = P.length) : ∀ f ∈ rs.filterMap id, FdSelf f := by
  intro f hf
  rw [List.mem_filterMap] at hf
  obtain ⟨r, hr, e⟩ := hf
  simp only [id] at e
  subst e
  obtain ⟨j, hj, hje⟩ := List.getElem_of_mem hr
  have := h j hj
  rw [getO rs j hj, hje] at this
  refine fd_self R k W sc _ _ f hk1 hk2 hW hR (hP _ ?_) this
  rw [getD_get _ _ _ (by omega)]
  exact List.getElem_mem _
end Go.Proofs.YtilcmkiihefkkabGreatDoor.Mn
end
