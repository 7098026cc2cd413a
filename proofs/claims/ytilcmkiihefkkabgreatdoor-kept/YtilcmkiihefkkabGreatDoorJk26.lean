import Derived.Lib.AppendStr
import Derived.Test.YtilcmkiihefkkabGreatDoorJk24
import Derived.Test.YtilcmkiihefkkabGreatDoorJk25
section
set_option linter.unusedVariables false
set_option linter.unusedSimpArgs false
set_option maxRecDepth 100000
namespace Go.Proofs.YtilcmkiihefkkabGreatDoor.Mn
open Go.RowKit Go.Maps Go.MapKept Go.ChangeMaps
/-- what a table of hits holds -/
def TOK (T : Int → List W3) : Prop := ∀ h, ∀ y ∈ T h, 0 ≤ y.h ∧ y.h < 100000 ∧ 0 ≤ y.p ∧ y.p ≤ 100000
/-- one word of the read -/
def gatW (len k : Int) (T : Int → List W3) (st : Nat × (Int × Bool → List (Int × Int))) (x : W3) : Nat × (Int × Bool → List (Int × Int)) :=
  if 400 < st.1 + (T x.h).length then (st.1 + (T x.h).length, st.2) else (st.1 + (T x.h).length, (T x.h).foldl (fun A y => gatA len k A x y) st.2)
def gtC (X : Nat) (len : Int) (c : Nat) (Gb : Nat) : Array Value := #[.pointer (some ⟨X, 0, none⟩), .int .i64 len, .int .i64 c, .map (some Gb)]
/-- the gatherer under way -/
structure GwI (w0 : World) (X Gt Gb : Nat) (len : Int) (c : Nat) (A : Int × Bool → List (Int × Int)) (wr : World) : Prop where
  gt : wr.heap[Gt]? = some (.cells (gtC X len c Gb) 136 (0, 0))
  sd : ∃ V n, SdP wr w0.heap.size Gb n V A ∧ n ≤ c ∧ n ≤ 400 ∧ ∀ s, (A s).length ≤ n
  bl : Below w0.heap.size w0 wr
  lo : w0.heap.size ≤ Gb
  lt : w0.heap.size ≤ Gt
theorem GwI.kept {w0 : World} {X Gt Gb : Nat} {len : Int} {c : Nat} {A : Int × Bool → List (Int × Int)} {wr w' : World} (h : GwI w0 X Gt Gb len c A wr) (hb : Below wr.heap.size wr w') : GwI w0 X Gt Gb len c A w' := by
  obtain ⟨V, n, hV, h1⟩ := h.sd
  exact ⟨(hb.block _ (lt_of_block h.gt)).trans h.gt, ⟨V, n, hV.kept (fun g hg => hb.block g hg), h1⟩, h.bl.trans (hb.mono h.bl.size), h.lo, h.lt⟩
theorem gatA_len (len k : Int) (A : Int × Bool → List (Int × Int)) (x y : W3) (n : Nat) (h : ∀ s, (A s).length ≤ n) : ∀ s, (gatA len k A x y s).length ≤ n + 1 := by
  intro s
  unfold gatA updF
  split
  · have := h (sdOf x y); simp; omega
  · have := h s; omega
theorem okS_of (x y : W3) (h : 0 ≤ y.h ∧ y.h < 100000) : okS (sdOf x y) := by
  unfold okS sdOf; exact WalkArith.wf_i64 (by omega)
theorem smap_ne {w : World} {base Gb n : Nat} {V : Int × Bool → Value} {A : Int × Bool → List (Int × Int)} (h : SdP w base Gb n V A) {g : Nat} {cs : Array Value} {t : TypeId} (hg : w.heap[g]? = some (.cells cs t (0, 0))) : g ≠ Gb := by
  obtain ⟨D, ⟨es, clock, hb, _⟩, _⟩ := h.map
  intro e
  rw [e, hb] at hg
  cases hg
/-- one hit -/
theorem GwI.step {w0 : World} {X Gt Gb : Nat} {len : Int} {c : Nat} {A : Int × Bool → List (Int × Int)} {wr : World} {kn Wn scn : Nat} {rv mv : Value} (hX : w0.heap[X]? = some (.cells (ixC kn Wn scn rv mv) 59 (0, 0)))
    (hgt : wr.heap[Gt]? = some (.cells (gtC X len c Gb) 136 (0, 0))) (V : Int × Bool → Value) (n : Nat) (hV : SdP wr w0.heap.size Gb n V A) (hn : n < 400) (hAl : ∀ s, (A s).length ≤ n) (bl : Below w0.heap.size w0 wr) (lo : w0.heap.size ≤ Gb) (lt : w0.heap.size ≤ Gt)
    (x y : W3) (hlen : 0 ≤ len ∧ len ≤ 1000000) (hkn : kn ≤ 12) (hp : 0 ≤ x.p ∧ x.p ≤ 1000000) (hy : 0 ≤ y.h ∧ y.h < 100000) :
    Calls Tryz.prog 93 #[.pointer (some ⟨Gt, 0, none⟩), .agg #[.int .i64 x.h, .int .i64 x.p, .bool x.b], .agg #[.int .i64 y.h, .int .i64 y.p, .bool y.b]] wr fun e w' => e = .returned (.tuple #[]) ∧
      w'.heap[Gt]? = some (.cells (gtC X len c Gb) 136 (0, 0)) ∧ (∃ V', SdP w' w0.heap.size Gb (n + 1) V' (gatA len kn A x y)) ∧ Below w0.heap.size w0 w' ∧ WKeep wr w' := by
  have hXr := (bl.block X (lt_of_block hX)).trans hX
  refine (ganchor_any x y len kn c kn Wn scn rv mv Gt X Gb w0.heap.size n V A wr (okS_of x y hy) (by omega) (by have := hAl (sdOf x y); omega) bl.size hlen rfl hkn hp hgt hXr hV).mono ?_
  rintro e w' ⟨rfl, hV', hs, hk, ho, ht, hu⟩
  have tagk : ∀ g cs t, wr.heap[g]? = some (Obj.cells cs t (0, 0)) → t ≠ 140 → w'.heap[g]? = wr.heap[g]? := fun g cs t hg hne => hk g (lt_of_block hg) (smap_ne hV hg) ((hV.own _ (okS_of x y hy)).tag hne hg)
  refine ⟨rfl, (tagk _ _ _ hgt (by decide)).trans hgt, hV', ⟨ho.trans bl.os, ht.trans bl.tape, hu.trans bl.output, Nat.le_trans bl.size hs, fun g hg => ?_⟩, fun g cs hg => tagk g cs _ hg (by decide)⟩
  rw [hk g (Nat.lt_of_lt_of_le hg bl.size) (by omega) (fun e => by have := ((hV.own _ (okS_of x y hy)).lt e).1; omega)]
  exact bl.block g hg
theorem GwI.count {w0 : World} {X Gt Gb : Nat} {len : Int} {c c' : Nat} {A : Int × Bool → List (Int × Int)} {wr w' : World} (h : GwI w0 X Gt Gb len c A wr) (hu : Upd wr w' Gt (.cells (gtC X len c' Gb) 136 (0, 0))) (hc : c ≤ c') : GwI w0 X Gt Gb len c' A w' ∧ WKeep wr w' ∧ ∀ V n, SdP wr w0.heap.size Gb n V A → SdP w' w0.heap.size Gb n V A := by
  obtain ⟨V, n, hV, h1, h2, h3⟩ := h.sd
  have key : ∀ V n, SdP wr w0.heap.size Gb n V A → SdP w' w0.heap.size Gb n V A := by
    intro V n hV
    obtain ⟨D, hD, r⟩ := hV.map
    exact ⟨⟨D, ownsMap_at hD (hu.other _ (Ne.symm (smap_ne hV h.gt))), r⟩, fun s hs => (hV.own s hs).other (fun g hg _ => hu.other g (fun e => (hV.own s hs).tag (by decide) h.gt (e ▸ hg))), hV.apart⟩
  refine ⟨⟨hu.here, ⟨V, n, key V n hV, by omega, h2, h3⟩, h.bl.trans (hu.below h.lt), h.lo, h.lt⟩, ?_, key⟩
  · intro g cs hg
    refine hu.other g (fun e => ?_)
    rw [e, h.gt] at hg
    simp at hg
set_option maxHeartbeats 4000000 in
theorem gword_any {w0 : World} {X Gt Gb : Nat} {len : Int} {c : Nat} {A : Int × Bool → List (Int × Int)} {wq : World} {kn Wn scn Hb base n0 : Nat} {rv : Value} {V0 : Int → Value} {T : Int → List W3} (hX : w0.heap[X]? = some (.cells (ixC kn Wn scn rv (.map (some Hb))) 59 (0, 0)))
    (hT : HtP w0 base Hb n0 V0 T) (hTo : TOK T) (h : GwI w0 X Gt Gb len c A wq) (x : W3) (hx : okI x.h) (hlen : 0 ≤ len ∧ len ≤ 1000000) (hkn : kn ≤ 12) (hp : 0 ≤ x.p ∧ x.p ≤ 1000000) (hc : c < 1000000000) (hTl : (T x.h).length < 1000000) :
    Calls Tryz.prog 60 #[.pointer (some ⟨Gt, 0, none⟩), .agg #[.int .i64 x.h, .int .i64 x.p, .bool x.b]] wq fun e w' => e = .returned (.tuple #[]) ∧ GwI w0 X Gt Gb len (gatW len kn T (c, A) x).1 (gatW len kn T (c, A) x).2 w' ∧ WKeep wq w' := by
  have HT0 : Hid (HtP w0 base Hb n0 V0 T) := hT
  have HX : Hid (w0.heap[X]? = some (.cells (ixC kn Wn scn rv (.map (some Hb))) 59 (0, 0))) := hX
  have HH : Hid (GwI w0 X Gt Gb len c A wq) := h
  have HTO : Hid (TOK T) := hTo
  have hGl : Gt < wq.heap.size := lt_of_block h.gt
  clear hX hT h hTo
  go_enter Tryz.func60, Tryz.ntmps60
  go_wp2_with fail
  rename_i Q0 K0 hK0
  obtain ⟨wA, hwA⟩ : ∃ W1 : World, W1 = wq.alloc (Obj.cells #[Value.int IntKind.i64 x.h, Value.int IntKind.i64 x.p, Value.bool x.b] 124) := ⟨_, rfl⟩
  have hbA : Below wq.heap.size wq wA := by rw [hwA]; exact (Below.refl _ _).alloc (Nat.le_refl _) _
  have hA0 : wA.heap[wq.heap.size]? = some (.cells #[Value.int IntKind.i64 x.h, Value.int IntKind.i64 x.p, Value.bool x.b] 124 (0, 0)) := by rw [hwA]; exact heap_alloc_new wq _
  have hsA : wA.heap.size = wq.heap.size + 1 := by rw [hwA]; simp
  rw [← hwA]
  clear hwA
  have HA : Hid (GwI w0 X Gt Gb len c A wA) := HH.out.kept hbA
  have hXA : wA.heap[X]? = _ := (HA.out.bl.block X (lt_of_block HX.out)).trans HX.out
  have f0 : wA.drew.cell? ⟨Gt, 0, none⟩ = some (.pointer (some ⟨X, 0, none⟩)) := cell_at HA.out.gt rfl
  have f1 : wA.drew.cell? ⟨X, 4, none⟩ = some (.map (some Hb)) := cell_at hXA rfl
  have f2 : wA.drew.cell? ⟨wq.heap.size, 0, none⟩ = some (.int .i64 x.h) := cell_at hA0 rfl
  have hTA : HtP wA.drew base Hb n0 V0 T := HT0.out.kept (fun g hg => HA.out.bl.block g hg)
  have f3 := hTA.look (t := 57) lawI Tryz.underlying57 (zeroHits _) hx (keyI x.h hx)
  refine wp_region_X 11 (fun W1 => W1.cell? ⟨Gt, 0, none⟩ = some (.pointer (some ⟨X, 0, none⟩)) ∧ W1.cell? ⟨X, 4, none⟩ = some (.map (some Hb)) ∧ W1.cell? ⟨wq.heap.size, 0, none⟩ = some (.int .i64 x.h) ∧ (Instr.lookup 57 (.map (some Hb)) (.int .i64 x.h) false).run Tryz.prog W1 = .ok (V0 x.h) W1) (by kernel_rfl) ⟨f0, f1, f2, f3⟩ (fun hH => ?_)
  refine wpZ 0 hH ?_
  refine wpZ 1 hH ?_
  refine wpZ 2 hH ?_
  refine wpZ 3 hH ?_
  refine wpZ 4 hH ?_
  refine wpZ 5 hH ?_
  refine wpZ 6 hH ?_
  refine wpZ 7 hH ?_
  refine wpZ 8 hH ?_
  refine wpZ 9 hH ?_
  refine wpZ 10 hH ?_
  refine wpAnyX_done (by kernel_rfl) ?_
  refine hK0 _ _ ?_
  clear hK0 hH f0 f1 f2 f3 hTA
  obtain ⟨m, hm⟩ : ∃ m, m = (T x.h).length := ⟨_, rfl⟩
  have HM : Hid (m = (T x.h).length) := hm
  obtain ⟨ao, cp, hv, hsome⟩ : ∃ ao cp, V0 x.h = .slice ao m cp ∧ (m ≠ 0 → ∃ g o cur, ao = some ⟨g, o, none⟩ ∧ w0.heap[g]? = some (Obj.cells cur 78 (0, 0)) ∧ ∀ j u, (wcells (T x.h))[j]? = some u → cur[o + j]? = some u) := by
    rcases (HT0.out.own x.h hx).2 with ⟨h, h0⟩ | ⟨g, o, cap, cur, h, _, hg, _, _, _, hc⟩
    · exact ⟨none, 0, by rw [h, hm, h0], fun h' => absurd (hm.trans h0) h'⟩
    · exact ⟨_, _, by rw [hm]; exact h, fun _ => ⟨g, o, cur, rfl, hg, hc⟩⟩
  rw [hv]
  have HSO : Hid (m ≠ 0 → ∃ g o cur, ao = some ⟨g, o, none⟩ ∧ w0.heap[g]? = some (Obj.cells cur 78 (0, 0)) ∧ ∀ j u, (wcells (T x.h))[j]? = some u → cur[o + j]? = some u) := hsome
  have hml : m < 1000000 := by omega
  have hwc : IntKind.i64.wrap ((c : Int) + m) = (c : Int) + m := by rw [IntKind.wrap_i64]; omega
  have q2 : wA.drew.cell? ⟨Gt, 2, none⟩ = some (.int .i64 c) := cell_at HA.out.gt rfl
  have qf : wA.drew.frozen? ⟨Gt, 2, none⟩ = false := frozen_of_row _ _ _ _ _ HA.out.gt
  obtain ⟨wB, hwB⟩ : ∃ W1 : World, W1 = (wA.setCell ⟨Gt, 2, none⟩ (.int .i64 ((c : Int) + m))).drew := ⟨_, rfl⟩
  have hU : Upd wA wB Gt (.cells (gtC X len (c + m) Gb) 136 (0, 0)) := by
    rw [hwB]
    have := Upd.of_setCell (w := wA) (i := 2) (.int .i64 ((c : Int) + m)) HA.out.gt
    refine ⟨this.os, this.tape, this.output, this.size, ?_, this.other⟩
    rw [show gtC X len (c + m) Gb = (gtC X len c Gb).setIfInBounds 2 (.int .i64 ((c : Int) + m)) from rfl]
    exact this.here
  have q3 : wB.cell? ⟨Gt, 2, none⟩ = some (.int .i64 ((c : Int) + m)) := cell_at hU.here rfl
  obtain ⟨hB1, hB2, hB3⟩ := HA.out.count hU (by omega)
  obtain ⟨V, n, hV0, hn1, hn2, hn3⟩ := HA.out.sd
  have HV0 : Hid (SdP wB w0.heap.size Gb n V A) := hB3 V n hV0
  have HN3 : Hid (∀ s, (A s).length ≤ n) := hn3
  have HB : Hid (GwI w0 X Gt Gb len (c + m) A wB) := hB1
  have HKB : Hid (WKeep wq wB) := (WKeep.below hbA).trans hB2
  have hB0 : wB.heap[wq.heap.size]? = some (.cells #[Value.int IntKind.i64 x.h, Value.int IntKind.i64 x.p, Value.bool x.b] 124 (0, 0)) := (hU.other _ (by omega)).trans hA0
  have HB0 : Hid (wB.heap[wq.heap.size]? = some (.cells #[Value.int IntKind.i64 x.h, Value.int IntKind.i64 x.p, Value.bool x.b] 124 (0, 0))) := hB0
  clear hB1 hB2 hB3 hV0 hn3 hU hsome hm hv hXA hbA hA0 hB0
  go_upto_region 3 with fail
  rw [← hwB]
  clear hwB q2 qf
  by_cases hbig : 400 < c + m
  · have HR : Hid (gatW len kn T (c, A) x = (c + m, A)) := by show _ = _; unfold gatW; rw [← HM.out, if_pos hbig]
    have hbi : (400 : Int) < (c : Int) + m := by omega
    go_wp2_with fail
    refine bodyPost_ret (results_none rfl _ _ _) rfl ?_
    rw [HR.out]
    exact ⟨rfl, HB.out, HKB.out⟩
  · have hbi : ¬ (400 : Int) < (c : Int) + m := by omega
    go_wp2_with fail
    have HR : Hid (gatW len kn T (c, A) x = (c + m, (T x.h).foldl (fun A y => gatA len kn A x y) A)) := by show _ = _; unfold gatW; rw [← HM.out, if_neg hbig]
    go_loopw [33] (fun i wx => ∃ j : Nat, j ≤ m ∧ i = .int .i64 j ∧ wx.heap[Gt]? = some (.cells (gtC X len (c + m) Gb) 136 (0, 0)) ∧ (∃ V', SdP wx w0.heap.size Gb (n + j) V' (((T x.h).take j).foldl (fun A y => gatA len kn A x y) A)) ∧ Below w0.heap.size w0 wx ∧ WKeep wB wx) (fun i _ => m - (RowKit.intOf i).toNat)
    case atStart => exact ⟨0, Nat.zero_le _, rfl, HB.out.gt, ⟨V, HV0.out⟩, HB.out.bl, fun _ _ _ => rfl⟩
    case round =>
      obtain ⟨j, hj, rfl, hgt, ⟨V', hV'⟩, hbl, hwk⟩ := hrel
      have HGT : Hid (wr.heap[Gt]? = some (.cells (gtC X len (c + m) Gb) 136 (0, 0))) := hgt
      have HV' : Hid (SdP wr w0.heap.size Gb (n + j) V' (((T x.h).take j).foldl (fun A y => gatA len kn A x y) A)) := hV'
      have HBL : Hid (Below w0.heap.size w0 wr) := hbl
      have HWK : Hid (WKeep wB wr) := hwk
      clear hgt hV' hbl hwk
      by_cases hlt : j < m
      · obtain ⟨g, o, cur, rfl, hgc, hcc⟩ := HSO.out (by omega)
        have hgr : wr.heap[g]? = some (Obj.cells cur 78 (0, 0)) := (HBL.out.block g (lt_of_block hgc)).trans hgc
        have hjL : j < (T x.h).length := by have := HM.out; omega
        obtain ⟨y, hy⟩ : ∃ y, y = (T x.h)[j] := ⟨_, rfl⟩
        have hw := wcells_at (T x.h) j hjL
        rw [Nat.mul_comm 3 j, ← hy] at hw
        have d0 : wr.cell? ⟨g, o + j * 3, none⟩ = some (.int .i64 y.h) := cell_at hgr (hcc _ _ hw.1)
        have d1 : wr.cell? ⟨g, o + j * 3 + 1, none⟩ = some (.int .i64 y.p) := cell_at hgr (hcc _ _ hw.2.1)
        have d2 : wr.cell? ⟨g, o + j * 3 + 2, none⟩ = some (.bool y.b) := cell_at hgr (hcc _ _ hw.2.2)
        have hx0 : wr.heap[wq.heap.size]? = some (.cells #[Value.int IntKind.i64 x.h, Value.int IntKind.i64 x.p, Value.bool x.b] 124 (0, 0)) := (HWK.out _ _ HB0.out).trans HB0.out
        have e0 := cell_at hx0 (i := 0) rfl
        have e1 := cell_at hx0 (i := 1) rfl
        have e2 := cell_at hx0 (i := 2) rfl
        have hyo := HTO.out x.h y (by rw [hy]; exact List.getElem_mem _)
        have HY : Hid (y = (T x.h)[j]) := hy
        have hxl : wq.heap.size < wr.heap.size := lt_of_block hx0
        have hgl : g < wr.heap.size := lt_of_block hgr
        clear hw hy hx0 hgr
        go_wp2_with fail
        have hbw : Below wr.heap.size wr (wr.alloc (Obj.cells #[Value.int IntKind.i64 y.h, Value.int IntKind.i64 y.p, Value.bool y.b] 78)) := (Below.refl _ _).alloc (Nat.le_refl _) _
        have hfl : ∀ (L : List W3) (A : Int × Bool → List (Int × Int)) (q : Nat), (∀ s, (A s).length ≤ q) → ∀ s, (L.foldl (fun A y => gatA len kn A x y) A s).length ≤ q + L.length := by
          intro L
          induction L with
          | nil => intro A q h s; exact h s
          | cons a t ih => intro A q h s; have := ih (gatA len kn A x a) (q + 1) (gatA_len len kn A x a q h) s; simp only [List.foldl_cons, List.length_cons]; omega
        refine (GwI.step (c := c + m) HX.out ((hbw.block _ (lt_of_block HGT.out)).trans HGT.out) V' (n + j) (HV'.out.kept (fun g hg => hbw.block g hg)) (by omega) (fun s => by have := hfl ((T x.h).take j) A n HN3.out s; simp only [List.length_take] at this; omega) (HBL.out.trans (hbw.mono HBL.out.size)) HB.out.lo HB.out.lt x y hlen hkn hp ⟨hyo.1, hyo.2.1⟩).mono ?_
        rintro e w2 ⟨rfl, hg2, ⟨V2, hV2⟩, hb2, hk2⟩
        have HG2 : Hid (w2.heap[Gt]? = some (.cells (gtC X len (c + m) Gb) 136 (0, 0))) := hg2
        have HV2 : Hid (SdP w2 w0.heap.size Gb (n + (j + 1)) V2 (((T x.h).take (j + 1)).foldl (fun A y => gatA len kn A x y) A)) := by
          show SdP _ _ _ _ _ _
          rw [List.take_add_one, List.getElem?_eq_getElem hjL, List.foldl_append, ← HY.out]
          exact hV2
        have HB2 : Hid (Below w0.heap.size w0 w2) := hb2
        have HK2 : Hid (WKeep wB w2) := HWK.out.trans ((WKeep.below hbw).trans hk2)
        clear hg2 hV2 hb2 hk2 hbw hfl d0 d1 d2 e0 e1 e2
        go_wp2
        go_roundw
        case rel => exact ⟨j + 1, by omega, by go_num, HG2.out, ⟨V2, HV2.out⟩, HB2.out, HK2.out⟩
        case measure => simp [RowKit.intOf]; omega
      · have hjm : j = m := by omega
        subst hjm
        go_wp2
        go_end0
        rw [HR.out]
        refine ⟨rfl, ⟨HGT.out, ⟨V', n + j, ?_, by omega, by omega, ?_⟩, HBL.out, HB.out.lo, HB.out.lt⟩, HKB.out.trans HWK.out⟩
        · have := HV'.out
          rw [HM.out, List.take_length] at this
          rw [HM.out]; exact this
        · intro s
          have : ∀ (L : List W3) (A : Int × Bool → List (Int × Int)) (q : Nat), (∀ s, (A s).length ≤ q) → ∀ s, (L.foldl (fun A y => gatA len kn A x y) A s).length ≤ q + L.length := by
            intro L
            induction L with
            | nil => intro A q h s; exact h s
            | cons a t ih => intro A q h s; have := ih (gatA len kn A x a) (q + 1) (gatA_len len kn A x a q h) s; simp only [List.foldl_cons, List.length_cons]; omega
          have := this (T x.h) A n HN3.out s
          rw [HM.out]; exact this
end Go.Proofs.YtilcmkiihefkkabGreatDoor.Mn
end
section
set_option linter.unusedVariables false
set_option linter.unusedSimpArgs false
set_option maxRecDepth 100000
namespace Go.Proofs.YtilcmkiihefkkabGreatDoor.Mn
open Go.RowKit Go.Maps Go.MapKept Go.ChangeMaps
theorem enterGword (args : Array Value) (w : World) : (callFunc 60 args).run Tryz.prog w = .ok (.enter 60 args) w := enter_of Tryz.func60 (by kernel_rfl) rfl args w
/-- all anchors of a read: how many, and by sides -/
def gat (k W : Nat) (R : List S2) (s : ByteArray) : Nat × (Int × Bool → List (Int × Int)) := (wds k W s).foldl (gatW s.size k (tabN k W R R.length)) (0, fun _ => [])
theorem gatW_cnt (len k : Int) (T : Int → List W3) (st : Nat × (Int × Bool → List (Int × Int))) (x : W3) : (gatW len k T st x).1 = st.1 + (T x.h).length := by
  unfold gatW; split <;> rfl
theorem gatL_cnt (len k : Int) (T : Int → List W3) (M : Nat) (hM : ∀ h, (T h).length ≤ M) : ∀ (L : List W3) (st : Nat × (Int × Bool → List (Int × Int))), (L.foldl (gatW len k T) st).1 ≤ st.1 + L.length * M
  | [], st => by simp
  | x :: t, st => by
    have := gatL_cnt len k T M hM t (gatW len k T st x)
    rw [gatW_cnt] at this
    have h2 := hM x.h
    simp only [List.foldl_cons, List.length_cons, Nat.add_mul]
    omega
theorem tab_ok {k W : Nat} (hk1 : 1 ≤ k) (hk2 : k ≤ 12) (hW : 1 ≤ W) (R : List S2) (hR : ∀ x ∈ R, good x.b) (hs : sumN R R.length ≤ 4000) (hl : R.length < 100000) : ∀ j, j ≤ R.length → TOK (tabN k W R j) := by
  intro j
  induction j with
  | zero => intro _ h y hy; simp [tabN] at hy
  | succ j ih =>
    intro hj
    have hm : R.getD j S0 ∈ R := by rw [getD_get _ _ _ (by omega)]; exact List.getElem_mem _
    have hsz : (R.getD j S0).b.size ≤ 4000 := by
      have := sumN_mono R (j + 1) R.length hj
      have e : sumN R (j + 1) = sumN R j + (R.getD j S0).b.size := rfl
      omega
    have key : ∀ (L : List W3) (T : Int → List W3), (∀ x ∈ L, 0 ≤ x.p ∧ x.p ≤ 100000) → TOK T → TOK (entL j T L) := by
      intro L
      induction L with
      | nil => intro T _ h; exact h
      | cons x t iht =>
        intro T hx h
        refine iht (entW j T x) (fun y hy => hx y (List.mem_cons_of_mem _ hy)) ?_
        intro a y hy
        unfold entW updF at hy
        split at hy
        · rcases List.mem_append.1 hy with hy | hy
          · exact h _ y hy
          · simp at hy
            subst hy
            have := hx x (List.mem_cons_self)
            exact ⟨by show (0 : Int) ≤ (j : Nat); omega, by show ((j : Nat) : Int) < 100000; omega, this.1, this.2⟩
        · exact h _ y hy
    refine key _ _ (fun x hx => ?_) (ih (by omega))
    have := wds_ok hk1 hk2 hW (hR _ hm) hx
    omega
/-- what anchors answers -/
def AnP (w : World) (k W : Nat) (R : List S2) (s : ByteArray) (e : Ending) (w' : World) : Prop :=
  Below w.heap.size w w' ∧ ((400 < (gat k W R s).1 ∧ e = .returned (.map none)) ∨ ((gat k W R s).1 ≤ 400 ∧ ∃ Gb V n, e = .returned (.map (some Gb)) ∧ SdP w' w.heap.size Gb n V (gat k W R s).2 ∧ n ≤ 400 ∧ (∀ q, ((gat k W R s).2 q).length ≤ 400) ∧ w.heap.size ≤ Gb))
set_option maxHeartbeats 4000000 in
theorem anchors_any (R : List S2) (base X k W sc : Nat) (s : ByteArray) (w : World) (hk1 : 1 ≤ k) (hk2 : k ≤ 12) (hW : 1 ≤ W) (hW2 : W ≤ 20) (hR : ∀ x ∈ R, good x.b) (hl : R.length < 100000) (hsum : sumN R R.length ≤ 4000) (hI : IxP w base X R k W sc) (hs : s.size ≤ 100000) (hg : good s) :
    Calls Tryz.prog 45 #[.pointer (some ⟨X, 0, none⟩), .string s] w fun e w' => AnP w k W R s e w' := by
  obtain ⟨rv, Hb, V0, hX, hO, hT, _, _⟩ := hI
  have hmm : ∀ W', _ := fun W' => run_makeMap (P := Tryz.prog) 106 W'
  have hTl := tabN_len hk1 hk2 hW R hR R.length (Nat.le_refl _)
  have hTO := tab_ok hk1 hk2 hW R hR hsum hl R.length (Nat.le_refl _)
  have hwl := wds_len hk1 hk2 hW hg (W := W) (k := k)
  have HX : Hid (w.heap[X]? = some (.cells (ixC k W sc rv (.map (some Hb))) 59 (0, 0))) := hX
  have HT : Hid (HtP w base Hb 4000 V0 (tabN k W R R.length)) := hT
  have hXl : X < w.heap.size := lt_of_block hX
  have HTL : Hid (∀ a, (tabN k W R R.length a).length ≤ sumN R R.length) := hTl
  have HTO : Hid (TOK (tabN k W R R.length)) := hTO
  clear hX hT hO hTl hTO
  go_enter Tryz.func45, Tryz.ntmps45
  go_wp2_with fail
  obtain ⟨wA, hwA⟩ : ∃ W1 : World, W1 = (w.alloc (Obj.map #[] 0)).alloc (Obj.cells #[Value.pointer (some { block := X, off := 0 }), Value.int IntKind.i64 ↑s.size, Value.int IntKind.i64 0, Value.map (some w.heap.size)] 136) := ⟨_, rfl⟩
  rw [← hwA]
  have hbA : Below w.heap.size w wA := by rw [hwA]; exact ((Below.refl _ _).alloc (Nat.le_refl _) _).alloc (by simp) _
  have hG0 : GwI w X (w.heap.size + 1) w.heap.size s.size 0 (fun _ => []) wA := by
    refine ⟨?_, ⟨fun _ => nilS, 0, ?_, Nat.le_refl _, by omega, fun _ => Nat.le_refl _⟩, hbA, Nat.le_refl _, by omega⟩
    · have := heap_alloc_new (w.alloc (Obj.map #[] 0)) (Obj.cells #[Value.pointer (some { block := X, off := 0 }), Value.int IntKind.i64 ↑s.size, Value.int IntKind.i64 0, Value.map (some w.heap.size)] 136)
      have e1 : (w.alloc (Obj.map #[] 0)).heap.size = w.heap.size + 1 := by simp
      rw [e1] at this
      rw [hwA]; exact this
    · have h1 := GrP.made w Tryz.prog kS okS acells rfl 109 140 2 w.heap.size
      rw [hwA]
      exact h1.kept (fun j hj => Below.heap_alloc _ _ j hj)
  have hXA := (hbA.block X hXl).trans HX.out
  clear hwA
  have cEW := eachWord_any 60 enterGword (.pointer (some ⟨w.heap.size + 1, 0, none⟩)) s X k W sc rv (.map (some Hb)) wA (by omega) hk1 hk2 hW hW2 hg hXA
    (fun i wr => GwI w X (w.heap.size + 1) w.heap.size s.size (((wds k W s).take i).foldl (gatW s.size k (tabN k W R R.length)) (0, fun _ => [])).1 (((wds k W s).take i).foldl (gatW s.size k (tabN k W R R.length)) (0, fun _ => [])).2 wr)
    (fun i hi wr hGI => by
      have hok := wds_ok hk1 hk2 hW hg (List.getElem_mem hi)
      have hcnt := gatL_cnt s.size k (tabN k W R R.length) _ HTL.out ((wds k W s).take i) (0, fun _ => [])
      rw [List.take_add_one, List.getElem?_eq_getElem hi, List.foldl_append]
      refine gword_any HX.out HT.out HTO.out hGI (wds k W s)[i] (okI_of hok.1 hok.2.1) (by omega) hk2 (by omega) ?_ (by have := HTL.out (wds k W s)[i].h; omega)
      simp only [List.length_take] at hcnt
      have h4 : min i (wds k W s).length * sumN R R.length ≤ 100000 * 4000 := Nat.mul_le_mul (by omega) hsum
      omega)
    (fun i wr w' hGI hb => hGI.kept hb) hG0 (by omega)
  refine cEW.mono ?_
  rintro e w2 ⟨rfl, hI2⟩
  rw [List.take_length] at hI2
  have HI2 : Hid (GwI w X (w.heap.size + 1) w.heap.size s.size (gat k W R s).1 (gat k W R s).2 w2) := hI2
  have q2 : w2.cell? ⟨w.heap.size + 1, 2, none⟩ = some (.int .i64 ((gat k W R s).1 : Nat)) := cell_at HI2.out.gt rfl
  have q3 : w2.cell? ⟨w.heap.size + 1, 3, none⟩ = some (.map (some w.heap.size)) := cell_at HI2.out.gt rfl
  clear hI2 cEW hXA hG0 hbA
  by_cases hbig : 400 < (gat k W R s).1
  · have hbi : (400 : Int) < ((gat k W R s).1 : Nat) := by omega
    go_wp2
    go_ret
    exact ⟨HI2.out.bl, Or.inl ⟨hbig, rfl⟩⟩
  · have hbi : ¬ (400 : Int) < ((gat k W R s).1 : Nat) := by omega
    go_wp2
    go_ret
    obtain ⟨V, n, hV, h1, h2, h3⟩ := HI2.out.sd
    exact ⟨HI2.out.bl, Or.inr ⟨by omega, w.heap.size, V, n, rfl, hV, h2, fun q => Nat.le_trans (h3 q) h2, Nat.le_refl _⟩⟩
end Go.Proofs.YtilcmkiihefkkabGreatDoor.Mn
end
section
set_option linter.unusedVariables false
set_option linter.unusedSimpArgs false
namespace Go.Proofs.YtilcmkiihefkkabGreatDoor.Mn
open Go.RowKit
/-- an anchor and its side: of which words -/
def AnOf (k W : Nat) (R : List S2) (s : ByteArray) (q : Int × Bool) (a : Int × Int) : Prop :=
  ∃ x ∈ wds k W s, ∃ i : Nat, i < R.length ∧ ∃ y ∈ wds k W (R.getD i S0).b, x.h = y.h ∧ q = ((i : Int), x.b != y.b) ∧ a = (if (x.b != y.b) = true then (s.size : Int) - k - x.p else x.p, y.p)
theorem entL_mem (i : Nat) : ∀ (L : List W3) (T : Int → List W3) (h : Int) (z : W3), z ∈ entL i T L h → z ∈ T h ∨ ∃ y ∈ L, y.h = h ∧ z = ⟨i, y.p, y.b⟩
  | [], T, h, z, hz => Or.inl hz
  | x :: t, T, h, z, hz => by
    rcases entL_mem i t (entW i T x) h z hz with hm | ⟨y, hy, e⟩
    · unfold entW updF at hm
      split at hm
      · rename_i he
        have he := (eqI_iff _ _).1 he
        rcases List.mem_append.1 hm with hm | hm
        · left; rw [he]; exact hm
        · right
          simp at hm
          exact ⟨x, List.mem_cons_self, he.symm, hm⟩
      · exact Or.inl hm
    · exact Or.inr ⟨y, List.mem_cons_of_mem _ hy, e⟩
theorem tab_mem (k W : Nat) (R : List S2) : ∀ (j : Nat) (h : Int) (z : W3), z ∈ tabN k W R j h → ∃ i, i < j ∧ ∃ y ∈ wds k W (R.getD i S0).b, y.h = h ∧ z = ⟨i, y.p, y.b⟩
  | 0, h, z, hz => by simp [tabN] at hz
  | j + 1, h, z, hz => by
    rcases entL_mem j _ _ h z hz with hm | ⟨y, hy, e⟩
    · obtain ⟨i, hi, r⟩ := tab_mem k W R j h z hm
      exact ⟨i, by omega, r⟩
    · exact ⟨j, by omega, y, hy, e⟩
theorem gat_mem (k W : Nat) (R : List S2) (s : ByteArray) (q : Int × Bool) (a : Int × Int) (h : a ∈ (gat k W R s).2 q) : AnOf k W R s q a := by
  have key : ∀ (L : List W3) (st : Nat × (Int × Bool → List (Int × Int))), (∀ x ∈ L, x ∈ wds k W s) → (∀ q a, a ∈ st.2 q → AnOf k W R s q a) → ∀ q a, a ∈ (L.foldl (gatW s.size k (tabN k W R R.length)) st).2 q → AnOf k W R s q a := by
    intro L
    induction L with
    | nil => intro st _ h q a ha; exact h q a ha
    | cons x t ih =>
      intro st hx h
      refine ih (gatW s.size k (tabN k W R R.length) st x) (fun y hy => hx y (List.mem_cons_of_mem _ hy)) ?_
      intro q a ha
      unfold gatW at ha
      split at ha
      · exact h q a ha
      · have inner : ∀ (M : List W3) (A : Int × Bool → List (Int × Int)), (∀ y ∈ M, y ∈ tabN k W R R.length x.h) → (∀ q a, a ∈ A q → AnOf k W R s q a) → ∀ q a, a ∈ (M.foldl (fun A y => gatA s.size k A x y) A) q → AnOf k W R s q a := by
          intro M
          induction M with
          | nil => intro A _ h q a ha; exact h q a ha
          | cons y u ihu =>
            intro A hy hA
            refine ihu (gatA s.size k A x y) (fun z hz => hy z (List.mem_cons_of_mem _ hz)) ?_
            intro q a ha
            unfold gatA updF at ha
            split at ha
            · rename_i he
              have he := (eqS_iff _ _).1 he
              rcases List.mem_append.1 ha with ha | ha
              · rw [he]; exact hA _ a ha
              · simp at ha
                obtain ⟨i, hi, z, hz, hzh, rfl⟩ := tab_mem k W R _ _ _ (hy y (List.mem_cons_self))
                exact ⟨x, hx x (List.mem_cons_self), i, hi, z, hz, hzh.symm, he, ha⟩
            · exact hA q a ha
        exact inner _ _ (fun y hy => hy) h q a ha
  exact key (wds k W s) (0, fun _ => []) (fun x hx => hx) (fun q a ha => by simp at ha) q a h
theorem getD_mem (R : List S2) (i : Nat) (h : i < R.length) : R.getD i S0 ∈ R := by rw [getD_get _ _ _ h]; exact List.getElem_mem _
/-- the numbers of an anchor -/
theorem AnOf.bounds {k W : Nat} {R : List S2} {s : ByteArray} {q : Int × Bool} {a : Int × Int} (h : AnOf k W R s q a) (hk1 : 1 ≤ k) (hk2 : k ≤ 12) (hW : 1 ≤ W) (hR : ∀ x ∈ R, good x.b) (hg : good s) :
    0 ≤ q.1 ∧ q.1 < R.length ∧ 0 ≤ a.1 ∧ a.1 + k ≤ s.size ∧ 0 ≤ a.2 ∧ a.2 + k ≤ (R.getD q.1.toNat S0).b.size := by
  obtain ⟨x, hx, i, hi, y, hy, hh, rfl, rfl⟩ := h
  have h1 := wds_ok hk1 hk2 hW hg hx
  have h2 := wds_ok hk1 hk2 hW (hR _ (getD_mem R i hi)) hy
  refine ⟨by show (0 : Int) ≤ (i : Nat); omega, by show ((i : Nat) : Int) < _; omega, ?_, ?_, h2.2.2.1, by simpa using h2.2.2.2⟩
  · show 0 ≤ (if _ then _ else _ : Int)
    split
    · have h3 : (0 : Int) ≤ (s.size : Int) - k - x.p := by omega
      exact h3
    · omega
  · show (if _ then _ else _ : Int) + _ ≤ _
    split
    · have h3 : (s.size : Int) - k - x.p + k ≤ s.size := by omega
      exact h3
    · omega
/-- the bases of an anchor's word are the same on both sides -/
theorem AnOf.same {k W : Nat} {R : List S2} {s : ByteArray} {q : Int × Bool} {a : Int × Int} (h : AnOf k W R s q a) (hk1 : 1 ≤ k) (hk2 : k ≤ 12) (hW : 1 ≤ W) (hR : ∀ x ∈ R, good x.b) (hg : good s) :
    seg (nums (if q.2 = true then turnL s.data.toList else s.data.toList)) a.1.toNat k = seg (nums (R.getD q.1.toNat S0).b.data.toList) a.2.toNat k ∧ (∀ m ∈ seg (nums (R.getD q.1.toNat S0).b.data.toList) a.2.toNat k, m < 4) := by
  obtain ⟨x, hx, i, hi, y, hy, hh, rfl, rfl⟩ := h
  obtain ⟨p, hp⟩ := wds_mem hk1 hk2 hW hg hx
  obtain ⟨r, hr⟩ := wds_mem hk1 hk2 hW (hR _ (getD_mem R i hi)) hy
  have hm := cand_match hk1 hk2 hp hr hh
  have e1 := (candW_cases hp).1
  have e2 := (candW_cases hr).1
  have hl := (isW_seg (candW_isW hp)).1
  have en : (nums s.data.toList).length = s.size := by simp [nums]
  have eri : ((i : Nat) : Int).toNat = i := by simp
  simp only [eri, e2]
  refine ⟨?_, by simpa using (isW_seg (candW_isW hr)).2.1⟩
  by_cases hb : x.b = y.b
  · have hb2 : (x.b != y.b) = false := by simp [hb]
    rw [hb2, e1]
    simp only [Bool.false_eq_true, if_false]
    simpa using (hm.1 hb).symm
  · have hb2 : (x.b != y.b) = true := by simpa using hb
    rw [hb2, e1]
    simp only [if_true]
    rw [nums_turnL, show ((s.size : Int) - k - (p : Nat)).toNat = (nums s.data.toList).length - k - p by rw [en]; omega, seg_turned _ k p (candW_isW hp)]
    simpa using (hm.2 hb).symm
end Go.Proofs.YtilcmkiihefkkabGreatDoor.Mn
end
section
set_option linter.unusedVariables false
set_option linter.unusedSimpArgs false
set_option maxRecDepth 100000
namespace Go.Proofs.YtilcmkiihefkkabGreatDoor.Mn
open Go.RowKit
/-- a list in order is one -/
theorem srt_uniq {α : Type} (r : α → α → Prop) (has : ∀ a b, r a b → ¬ r b a) : ∀ (A B : List α), A.Pairwise r → B.Pairwise r → (∀ x, x ∈ A ↔ x ∈ B) → A = B
  | [], [], _, _, _ => rfl
  | [], b :: B, _, _, h => by have := (h b).2 (List.mem_cons_self); cases this
  | a :: A, [], _, _, h => by have := (h a).1 (List.mem_cons_self); cases this
  | a :: A, b :: B, hA, hB, h => by
    rw [List.pairwise_cons] at hA hB
    have e : a = b := by
      rcases List.mem_cons.1 ((h a).1 (List.mem_cons_self)) with h1 | h1
      · exact h1
      · rcases List.mem_cons.1 ((h b).2 (List.mem_cons_self)) with h2 | h2
        · exact h2.symm
        · exact absurd (hA.1 _ h2) (has _ _ (hB.1 _ h1))
    subst e
    rw [srt_uniq r has A B hA.2 hB.2]
    intro x
    have hx := h x
    simp only [List.mem_cons] at hx
    constructor
    · intro h1
      rcases hx.1 (Or.inr h1) with h2 | h2
      · subst h2; exact absurd (hA.1 _ h1) (has _ _ (hA.1 _ h1))
      · exact h2
    · intro h1
      rcases hx.2 (Or.inr h1) with h2 | h2
      · subst h2; exact absurd (hB.1 _ h1) (has _ _ (hB.1 _ h1))
      · exact h2
/-- a number as bytes, the highest first -/
def wrB : Nat → Nat → List UInt8
  | _, 0 => []
  | n, k + 1 => wrB (n / 256) k ++ [(n % 256).toUInt8]
theorem wrB_len : ∀ k n, (wrB n k).length = k
  | 0, _ => rfl
  | k + 1, n => by rw [wrB, List.length_append, wrB_len k]; rfl
theorem wrB_hd : ∀ k n, wrB n (k + 1) = (n / 256 ^ k % 256).toUInt8 :: wrB n k
  | 0, n => by simp [wrB]
  | k + 1, n => by
    rw [wrB, wrB_hd k (n / 256), Nat.div_div_eq_div_mul, ← Nat.pow_succ']
    rfl
theorem wrB_mod : ∀ k n, wrB (n % 256 ^ k) k = wrB n k
  | 0, _ => rfl
  | k + 1, n => by
    have e1 : n % 256 ^ (k + 1) / 256 = n / 256 % 256 ^ k := by
      rw [Nat.pow_succ', Nat.mod_mul_right_div_self]
    have e2 : n % 256 ^ (k + 1) % 256 = n % 256 := by
      rw [Nat.pow_succ']; exact Nat.mod_mul_right_mod _ _ _
    rw [wrB, wrB, e1, e2, wrB_mod k]
def rdB (l : List UInt8) : Nat := l.foldl (fun a b => a * 256 + b.toNat) 0
theorem rdB_wrB : ∀ k n, rdB (wrB n k) = n % 256 ^ k
  | 0, n => by simp [rdB, wrB, Nat.mod_one]
  | k + 1, n => by
    have h := rdB_wrB k (n / 256)
    unfold rdB at *
    rw [wrB, List.foldl_append, h]
    simp only [List.foldl_cons, List.foldl_nil]
    have : (n % 256).toUInt8.toNat = n % 256 := by rw [Nat.toUInt8_eq, UInt8.toNat_ofNat']; omega
    rw [this, Nat.pow_succ', Nat.mod_mul]
    omega
/-- how an index is told -/
def refB (x : S2) : List UInt8 := wrB x.n.size 1 ++ x.n.data.toList ++ wrB x.b.size 2 ++ x.b.data.toList
def hitB (x : W3) : List UInt8 := wrB x.h.toNat 2 ++ wrB (2 * x.p.toNat + if x.b = true then 1 else 0) 2
def hitsB (L : List W3) : List UInt8 := wrB L.length 2 ++ L.flatMap hitB
def entB (T : Int → List W3) : Int → List Int → List UInt8
  | _, [] => []
  | last, h :: t => wrB (h - last).toNat 3 ++ hitsB (T h) ++ entB T h t
def optB8 (k W sc : Nat) : List UInt8 := wrB k 1 ++ wrB W 1 ++ wrB sc 8
def mark4 : List UInt8 := [80, 76, 71, 82]
def headB (k W sc : Nat) (R : List S2) : List UInt8 := mark4 ++ optB8 k W sc ++ wrB R.length 2 ++ R.flatMap refB
def saveB (k W sc : Nat) (R : List S2) (H : List Int) : List UInt8 := headB k W sc R ++ wrB H.length 2 ++ entB (tabN k W R R.length) 0 H
/-- the hashes of a table, in order -/
def HsP (T : Int → List W3) (H : List Int) : Prop := H.Pairwise (· < ·) ∧ ∀ h, h ∈ H ↔ T h ≠ []
theorem HsP.uniq {T : Int → List W3} {A B : List Int} (h : HsP T A) (h' : HsP T B) : A = B :=
  srt_uniq _ (fun a b h1 h2 => by omega) A B h.1 h'.1 (fun x => by rw [h.2, h'.2])
theorem entB_app (T : Int → List W3) : ∀ (A : List Int) (last h : Int), entB T last (A ++ [h]) = entB T last A ++ (wrB (h - A.getLastD last).toNat 3 ++ hitsB (T h))
  | [], last, h => by simp [entB]
  | a :: A, last, h => by
    simp only [List.cons_append, entB, entB_app T A a h, List.getLastD_cons, List.append_assoc]
end Go.Proofs.YtilcmkiihefkkabGreatDoor.Mn
end
section
set_option linter.unusedVariables false
set_option linter.unusedSimpArgs false
set_option maxRecDepth 100000
namespace Go.Proofs.YtilcmkiihefkkabGreatDoor.Mn
open Go.RowKit
theorem row_other {w w' : World} {base : Nat} {e : TypeId} {size : Nat} {v : Value} {n : Nat} {xs : List Value} (h : w.ownsRow base e size v n xs) (hg : ∀ g, v.ownBlock = some g → w'.heap[g]? = w.heap[g]?) : w'.ownsRow base e size v n xs := by
  obtain ⟨h0, h⟩ := h
  rcases h with ⟨rfl, h1⟩ | ⟨g, cap, cur, rfl, h1, h2, h3⟩
  · exact ⟨h0, Or.inl ⟨rfl, h1⟩⟩
  · exact ⟨h0, Or.inr ⟨g, cap, cur, rfl, h1, (hg g rfl).trans h2, h3⟩⟩
theorem row_form {w : World} {base : Nat} {e : TypeId} {size : Nat} {v : Value} {n : Nat} {xs : List Value} (h : w.ownsRow base e size v n xs) : ∃ ao cp, v = .slice ao n cp := by
  obtain ⟨h0, h⟩ := h
  rcases h with ⟨rfl, rfl⟩ | ⟨g, cap, cur, rfl, h1, h2, h3⟩
  · exact ⟨_, _, rfl⟩
  · exact ⟨_, _, rfl⟩
/-- a writer as it lies -/
def WrP (w : World) (base B : Nat) (L : List UInt8) : Prop := ∃ v, w.heap[B]? = some (.cells #[v] 54 (0, 0)) ∧ w.ownsRow base 5 1 v L.length (Lib.byteCells L) ∧ base ≤ B
/-- all but bytes and writers stay -/
def WrK (w w' : World) : Prop := ∀ j, (∀ cs, w.heap[j]? ≠ some (.cells cs 5 (0, 0))) → (∀ cs, w.heap[j]? ≠ some (.cells cs 54 (0, 0))) → j < w.heap.size → w'.heap[j]? = w.heap[j]?
/-- so much is written -/
structure Wrote (base B : Nat) (L : List UInt8) (w w' : World) : Prop where
  wp : WrP w' base B L
  bl : Below base w w'
  kp : WrK w w'
theorem WrK.refl (w : World) : WrK w w := fun _ _ _ _ => rfl
theorem WrK.trans {a b c : World} (h : WrK a b) (h' : WrK b c) (hs : a.heap.size ≤ b.heap.size) : WrK a c := fun j h1 h2 h3 => by
  have e := h j h1 h2 h3
  rw [h' j (fun cs hc => h1 cs (e ▸ hc)) (fun cs hc => h2 cs (e ▸ hc)) (by omega)]
  exact e
theorem WrK.below {a b : World} (h : Below a.heap.size a b) : WrK a b := fun j _ _ h3 => h.block j h3
theorem WrP.lt {w : World} {base B : Nat} {L : List UInt8} (h : WrP w base B L) : base < w.heap.size := by
  obtain ⟨v, h1, _, h3⟩ := h
  have := lt_of_block h1
  omega
theorem WrP.kept {w w' : World} {base B : Nat} {L : List UInt8} (h : WrP w base B L) (hb : Below w.heap.size w w') : WrP w' base B L := by
  obtain ⟨v, h1, h2, h3⟩ := h
  exact ⟨v, (hb.block _ (lt_of_block h1)).trans h1, row_other h2 (fun g hg => hb.block g (h2.lt g hg).2), h3⟩
theorem Wrote.trans {base B : Nat} {L M : List UInt8} {a b c : World} (h : Wrote base B L a b) (h' : Wrote base B M b c) : Wrote base B M a c := ⟨h'.wp, h.bl.trans h'.bl, h.kp.trans h'.kp h.bl.size⟩
theorem Wrote.refl {base B : Nat} {L : List UInt8} {w : World} (h : WrP w base B L) : Wrote base B L w w := ⟨h, Below.refl _ _, WrK.refl _⟩
theorem Wrote.more {base B : Nat} {L : List UInt8} {a b c : World} (h : Wrote base B L a b) (hb : Below b.heap.size b c) : Wrote base B L a c :=
  ⟨h.wp.kept hb, h.bl.trans (hb.mono (Nat.le_of_lt h.wp.lt)), h.kp.trans (WrK.below hb) h.bl.size⟩
theorem byteCells_app (A B : List UInt8) : Lib.byteCells (A ++ B) = Lib.byteCells A ++ Lib.byteCells B := by unfold Lib.byteCells; rw [List.map_append]
theorem byteCells_str (s : ByteArray) : Lib.byteCells s.data.toList = Lib.strCells s := rfl
/-- the store behind an append -/
theorem wrote_of {w w1 : World} {base B n : Nat} {L M : List UInt8} {v v' : Value} (hB : w.heap[B]? = some (.cells #[v] 54 (0, 0))) (hv : w.ownsRow base 5 1 v n (Lib.byteCells L)) (hbB : base ≤ B) (hgr : w.grownBy w1 v.ownBlock) (ho : w1.ownsRow base 5 1 v' M.length (Lib.byteCells M)) :
    (w1.heap[B]? = some (.cells #[v] 54 (0, 0))) ∧ Wrote base B M w (w1.setCell ⟨B, 0, none⟩ v') := by
  have hne : ∀ {W : World} {u : Value} {k : Nat} {xs : List Value}, W.ownsRow base 5 1 u k xs → W.heap[B]? = some (.cells #[v] 54 (0, 0)) → u.ownBlock ≠ some B := by
    intro W u k xs h hb e
    obtain ⟨_, h⟩ := h
    rcases h with ⟨rfl, _⟩ | ⟨g, cap, cur, rfl, _, h2, _⟩
    · cases e
    · simp only [Value.ownBlock, Option.some.injEq] at e
      rw [e, hb] at h2
      simp at h2
  have hB1 : w1.heap[B]? = some (.cells #[v] 54 (0, 0)) := (hgr.block B (lt_of_block hB) (fun e => hne hv hB e.symm)).trans hB
  have hU := Upd.of_setCell (i := 0) v' hB1
  refine ⟨hB1, ⟨⟨v', hU.here, row_other ho (fun g hg => hU.other g (fun e => hne ho hB1 (by rw [hg, e]))), hbB⟩, ⟨hgr.os, hgr.tape, hgr.output, ?_, fun g hg => ?_⟩, fun j h1 h2 h3 => ?_⟩⟩
  · rw [hU.size]; exact hgr.size
  · rw [hU.other g (by omega)]
    exact hgr.block g (by have := lt_of_block hB; omega) (fun e => by have := (hv.lt g e.symm).1; omega)
  · rw [hU.other j (fun e => h2 _ (by rw [e]; exact hB))]
    refine hgr.block j h3 (fun e => ?_)
    obtain ⟨_, h⟩ := hv
    rcases h with ⟨rfl, _⟩ | ⟨g, cap, cur, rfl, _, h2', _⟩
    · cases e
    · simp only [Value.ownBlock, Option.some.injEq] at e
      exact h1 cur (by rw [← h2', e])
theorem Tryz.info5x : (Tryz.prog.info? 5).map (fun i => (i.zero, i.size, i.bytes)) = some (some (.int .u8 0), 1, 1) := by kernel_rfl
set_option maxHeartbeats 1000000 in
theorem wtext_any (s : ByteArray) (L : List UInt8) (base B : Nat) (w : World) (h : WrP w base B L) (hl : L.length + s.size ≤ 1000000000) :
    Calls Tryz.prog 19 #[.pointer (some ⟨B, 0, none⟩), .string s] w fun e w' => e = .returned (.tuple #[]) ∧ Wrote base B (L ++ s.data.toList) w w' := by
  obtain ⟨i0, hi, hz0, hz1, hz2⟩ := info_parts Tryz.info5x
  have hlt := h.lt
  obtain ⟨v, hB, hv, hbB⟩ := h
  have c0 : w.cell? ⟨B, 0, none⟩ = some v := cell_at hB rfl
  have HB : Hid (w.heap[B]? = some (.cells #[v] 54 (0, 0))) := hB
  obtain ⟨n, hn⟩ : ∃ n, n = L.length := ⟨_, rfl⟩
  rw [← hn] at hv hl
  have HN : Hid (n = L.length) := hn
  clear hB hn
  go_enter Tryz.func19, Tryz.ntmps19
  go_wp2_with (at_builtin; refine Lib.wpList_append_own_string _ rfl (.tmp 8) (.tmp 9) 33 9 rfl base 5 i0 Tryz.underlying33 Tryz.underlying9 hi hz0 hz1 hz2 v n (Lib.byteCells L) rfl hv s rfl (by unfold maxLen; omega) (by omega) (Nat.le_of_lt hlt) ?_; intro v' w1 hown' hgr _; obtain ⟨ao', cp', rfl⟩ := row_form hown'; have HW := wrote_of HB.out hv hbB hgr (M := L ++ s.data.toList) (by rw [byteCells_app, List.length_append, ← HN.out]; exact hown'); have c1 := cell_at HW.1 (i := 0) rfl; have f1 : w1.frozen? ⟨B, 0, none⟩ = false := frozen_of_row _ _ _ _ _ HW.1; have HW2 : Hid _ := HW.2; clear HW hgr hown')
  go_end0
  exact ⟨rfl, HW2.out⟩
/-- an append in a region whose run is known -/
theorem step_appR {P : Program} {ops : Array Oper} {o : Oper} {a : Act} {w : World} {K : Act → World → Prop} {Q : Exit → Act → World → Prop} {E : Prop} (hg : o.guard = none) (s x : Operand) (t u : TypeId)
    (hop : o.op = Op.call { callee := Callee.builtin Builtin.append, args := #[s, x], argTypes := #[t, u] }) (v1 v2 v' : Value) (w' : World) (hs : a.eval s = v1) (hx : a.eval x = v2)
    (hrun : (Builtin.append_ #[t, u] o.type #[v1, v2]).run P w = .ok v' w') (hK : K (a.put o.dst v') w') : if Region.wanted o (yielded ops a.tmps) = true then Oper.wp P o a w K Q else E := by
  have hw : Region.wanted o (yielded ops a.tmps) = true := by simp [Region.wanted, hg]
  rw [if_pos hw]
  unfold Oper.wp
  simp [execOp, hop, resolve, invoke, builtin, hs, hx, hrun, Result.andThen]
  exact hK
theorem shr8 (n j : Nat) : (n : Int) / 2 ^ (8 * (j : Int)).toNat = ((n / 256 ^ j : Nat) : Int) := by
  rw [show (8 * (j : Int)).toNat = 8 * j by omega, show (256 : Nat) = 2 ^ 8 from rfl, ← Nat.pow_mul]
  simp
set_option maxHeartbeats 4000000 in
theorem wpattern_any (n k : Nat) (L : List UInt8) (base B : Nat) (w : World) (h : WrP w base B L) (hn : n < 18446744073709551616) (hk : k ≤ 8) (hl : L.length + k ≤ 1000000000) :
    Calls Tryz.prog 35 #[.pointer (some ⟨B, 0, none⟩), .int .u64 n, .int .i64 k] w fun e w' => e = .returned (.tuple #[]) ∧ Wrote base B (L ++ wrB n k) w w' := by
  obtain ⟨i0, hi, hz0, hz1, hz2⟩ := info_parts Tryz.info5x
  have HP : Hid (WrP w base B L) := h
  clear h
  go_enter Tryz.func35, Tryz.ntmps35
  go_wp2
  go_loopw [2] (fun sz wr => ∃ (j : Nat) (M : List UInt8), j ≤ k ∧ sz = .int .i64 j ∧ Wrote base B M w wr ∧ M ++ wrB n j = L ++ wrB n k ∧ M.length + j = L.length + k) (fun sz _ => (RowKit.intOf sz).toNat)
  case atStart => exact ⟨k, L, Nat.le_refl _, rfl, Wrote.refl HP.out, rfl, rfl⟩
  case round =>
    obtain ⟨j, M, hj, rfl, hW, hM, hMl⟩ := hrel
    have HW : Hid (Wrote base B M w wr) := hW
    have HM : Hid (M ++ wrB n j = L ++ wrB n k) := hM
    clear hM
    by_cases h0 : j = 0
    · subst h0
      go_wp2
      go_end0
      have := HM.out
      simp only [wrB, List.append_nil] at this
      rw [← this]
      exact ⟨rfl, HW.out⟩
    · obtain ⟨i, rfl⟩ : ∃ i, j = i + 1 := ⟨j - 1, by omega⟩
      have hlt := hW.wp.lt
      obtain ⟨v, hB, hv, hbB⟩ := hW.wp
      obtain ⟨m, hm⟩ : ∃ m, m = M.length := ⟨_, rfl⟩
      rw [← hm] at hv hMl
      have HN : Hid (m = M.length) := hm
      have HB : Hid (wr.heap[B]? = some (.cells #[v] 54 (0, 0))) := hB
      have HV : Hid (wr.ownsRow base 5 1 v m (Lib.byteCells M)) := hv
      have c0 : wr.drew.cell? ⟨B, 0, none⟩ = some v := cell_at hB rfl
      have e1 : ((i + 1 : Nat) : Int) - 1 = i := by omega
      have e2 : IntKind.i64.wrap (8 * (i : Int)) = ((8 * i : Nat) : Int) := by rw [IntKind.wrap_i64]; omega
      clear hB hm hW
      go_wp2
      refine wp_region_X 14 (fun W => W.cell? ⟨B, 0, none⟩ = some v) (by kernel_rfl) c0 (fun hH => ?_)
      refine wpZ 0 hH ?_
      refine wpZ 1 hH ?_
      refine wpZ 2 hH ?_
      refine wpZ 3 hH ?_
      refine wpZ 4 hH ?_
      refine wpZ 5 hH ?_
      refine wpZ 6 hH ?_
      refine wpZ 7 hH ?_
      refine wpZ 8 hH ?_
      rw [shr8]
      obtain ⟨y, hy⟩ : ∃ y, y = n / 256 ^ i := ⟨_, rfl⟩
      have HY : Hid (y = n / 256 ^ i) := hy
      rw [← hy]
      clear hy
      refine wpZ 9 hH ?_
      obtain ⟨b, hb⟩ : ∃ b, b = (y % 256).toUInt8 := ⟨_, rfl⟩
      have hby : IntKind.u8.wrap (y : Int) = (b.toNat : Int) := by
        rw [hb, Nat.toUInt8_eq, UInt8.toNat_ofNat', IntKind.wrap_u8]; omega
      rw [hby]
      have HBY : Hid (M ++ b :: wrB n i = L ++ wrB n k) := by
        have := HM.out
        rw [wrB_hd, ← HY.out, ← hb] at this
        exact this
      clear hb hby
      obtain ⟨wA, hwA⟩ : ∃ W : World, W = (wr.alloc (Obj.cells #[Value.int IntKind.u8 b.toNat] 5)).drew := ⟨_, rfl⟩
      have hnA : wA.heap[wr.heap.size]? = some (.cells #[Value.int IntKind.u8 b.toNat] 5 (0, 0)) := by rw [hwA]; exact heap_alloc_new wr _
      have hbA : Below wr.heap.size wr wA := by
        have h0 := (Below.refl wr.heap.size wr).alloc (Nat.le_refl _) (Obj.cells #[Value.int IntKind.u8 b.toNat] 5)
        rw [hwA]; exact ⟨h0.os, h0.tape, h0.output, h0.size, h0.block⟩
      have HBA : Hid (Below wr.heap.size wr wA) := hbA
      have hBl := lt_of_block HB.out
      have hBA := (hbA.block B hBl).trans HB.out
      have hvA : wA.ownsRow base 5 1 v m (Lib.byteCells M) := row_other hv (fun g hg => hbA.block g (hv.lt g hg).2)
      obtain ⟨v', w1, hrun, hown', hgr, _⟩ := run_append_own (P := Tryz.prog) wA base 33 33 5 i0 _ 1 1 Tryz.underlying33 hi hz0 hz1 hz2 rfl (by decide) v m (Lib.byteCells M) hvA ⟨wr.heap.size, 0, none⟩ 1 1 [.int .u8 b.toNat] rfl (fun q u hq => by
        rw [Addr.add_lit, Nat.zero_add]
        match q, hq with
        | 0, hq => exact cell_at hnA (by simpa using hq)) (fun u hu => by simp at hu; subst hu; rfl) (by unfold maxLen; omega) (by omega) (by have := hbA.size; omega)
      obtain ⟨ao', cp', rfl⟩ := row_form hown'
      have HW1 := wrote_of hBA hvA hbB hgr (M := M ++ [b]) (by rw [byteCells_app, List.length_append, ← HN.out]; exact hown')
      have c1 : w1.cell? ⟨B, 0, none⟩ = some v := cell_at HW1.1 (i := 0) rfl
      have f1 : w1.frozen? ⟨B, 0, none⟩ = false := frozen_of_row _ _ _ _ _ HW1.1
      have HW2 : Hid _ := HW1.2
      have cA : wA.cell? ⟨B, 0, none⟩ = some v := cell_at hBA rfl
      clear HW1 hgr hown' hvA hBA hnA hbA hv
      refine wpAnyX_step (i := 10) (by kernel_rfl) rfl (by kernel_rfl) (fun K hK => ?_)
      go_simp
      rw [← hwA]
      refine hK.out _ _ cA ?_
      clear hK K hwA hH
      try simp only [Act.put, zA0, zZ0, zS0]
      refine wpAnyX_step (i := 11) (by kernel_rfl) rfl (by kernel_rfl) (fun K hK => ?_)
      refine step_appR rfl (.tmp 14) (.tmp 20) 33 33 rfl v _ _ w1 (by simp [Act.eval]) (by simp [Act.eval]) hrun ?_
      refine hK.out _ _ c1 ?_
      clear hK K hrun
      try simp only [Act.put, zA0, zZ0, zS0]
      have hH := c1
      refine wpAnyX_step (i := 12) (by kernel_rfl) rfl (by kernel_rfl) (fun K hK => ?_)
      go_simp
      refine hK.out _ _ hH ?_
      clear hK K
      try simp only [Act.put, zA0, zZ0, zS0]
      refine wpAnyX_step (i := 13) (by kernel_rfl) rfl (by kernel_rfl) (fun K hK => ?_)
      go_simp
      refine hK.out _ _ hH ?_
      clear hK K
      try simp only [Act.put, zA0, zZ0, zS0]
      refine wpAnyX_last (i := 14) (by kernel_rfl) rfl (by kernel_rfl) (by kernel_rfl) (fun K hK => ?_)
      go_simp
      refine hK.out _ _ ?_
      clear hK K
      go_wp2_with fail
      go_roundw
      case rel =>
        refine ⟨i, M ++ [b], by omega, rfl, ?_, by rw [List.append_assoc]; exact HBY.out, by rw [List.length_append, ← HN.out, List.length_singleton]; omega⟩
        exact (HW.out.more HBA.out).trans HW2.out
      case measure => simp [RowKit.intOf]
end Go.Proofs.YtilcmkiihefkkabGreatDoor.Mn
end
