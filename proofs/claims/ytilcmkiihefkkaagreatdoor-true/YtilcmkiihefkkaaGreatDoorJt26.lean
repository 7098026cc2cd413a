import Derived.Test.YtilcmkiihefkkaaGreatDoorJt24
import Derived.Test.YtilcmkiihefkkaaGreatDoorJt25
section
set_option linter.unusedVariables false
set_option linter.unusedSimpArgs false
set_option maxRecDepth 100000
namespace Go.Proofs.YtilcmkiihefkkaaGreatDoor.Mn
open Go.RowKit Go.Maps Go.MapKept Go.ChangeMaps
/-- what a table of hits holds -/
def TOK (T : Int → List W3) : Prop := ∀ h, ∀ y ∈ T h, 0 ≤ y.h ∧ y.h < 100000 ∧ 0 ≤ y.p ∧ y.p ≤ 100000
/-- one word of the read -/
def gatW (len k : Int) (T : Int → List W3) (st : Nat × (Int × Bool → List (Int × Int))) (x : W3) : Nat × (Int × Bool → List (Int × Int)) :=
  if 400 < st.1 + (T x.h).length then (st.1 + (T x.h).length, st.2) else (st.1 + (T x.h).length, (T x.h).foldl (fun A y => gatA len k A x y) st.2)
def gtC (X : Nat) (len : Int) (c : Nat) (Gb : Nat) : Array Value := #[.pointer (some ⟨X, 0, none⟩), .int .i64 len, .int .i64 c, .map (some Gb)]
/-- the gatherer under way -/
structure GwI (w0 : World) (X Gt Gb : Nat) (len : Int) (c : Nat) (A : Int × Bool → List (Int × Int)) (wr : World) : Prop where
  gt : wr.heap[Gt]? = some (.cells (gtC X len c Gb) 214 (0, 0))
  sd : ∃ V n, SdP wr w0.heap.size Gb n V A ∧ n ≤ c ∧ n ≤ 400 ∧ ∀ s, (A s).length ≤ n
  bl : Below w0.heap.size w0 wr
  lo : w0.heap.size ≤ Gb
  lt : w0.heap.size ≤ Gt
theorem GwI.kept {w0 : World} {X Gt Gb : Nat} {len : Int} {c : Nat} {A : Int × Bool → List (Int × Int)} {wr w' : World} (h : GwI w0 X Gt Gb len c A wr) (hb : Below wr.heap.size wr w') : GwI w0 X Gt Gb len c A w' := by
  obtain ⟨V, n, hV, h1⟩ := h.sd
  exact ⟨(hb.block _ (lt_of_block h.gt)).trans h.gt, ⟨V, n, hV.kept (fun g hg => hb.block g hg), h1⟩, h.bl.trans (hb.mono h.bl.size), h.lo, h.lt⟩
theorem gatA_len (len k : Int) (A : Int × Bool → List (Int × Int)) (x y : W3) (n : Nat) (h : ∀ s, (A s).length ≤ n) : ∀ s, (gatA len k A x y s).length ≤ n + 1 := by
  intro s
  unfold gatA updF
  split
  · have := h (sdOf x y); simp; omega
  · have := h s; omega
theorem okS_of (x y : W3) (h : 0 ≤ y.h ∧ y.h < 100000) : okS (sdOf x y) := by
  unfold okS sdOf; exact WalkArith.wf_i64 (by omega)
theorem smap_ne {w : World} {base Gb n : Nat} {V : Int × Bool → Value} {A : Int × Bool → List (Int × Int)} (h : SdP w base Gb n V A) {g : Nat} {cs : Array Value} {t : TypeId} (hg : w.heap[g]? = some (.cells cs t (0, 0))) : g ≠ Gb := by
  obtain ⟨D, ⟨es, clock, hb, _⟩, _⟩ := h.map
  intro e
  rw [e, hb] at hg
  cases hg
/-- one hit -/
theorem GwI.step {w0 : World} {X Gt Gb : Nat} {len : Int} {c : Nat} {A : Int × Bool → List (Int × Int)} {wr : World} {kn Wn scn : Nat} {rv mv : Value} (hX : w0.heap[X]? = some (.cells (ixC kn Wn scn rv mv) 147 (0, 0)))
    (hgt : wr.heap[Gt]? = some (.cells (gtC X len c Gb) 214 (0, 0))) (V : Int × Bool → Value) (n : Nat) (hV : SdP wr w0.heap.size Gb n V A) (hn : n < 400) (hAl : ∀ s, (A s).length ≤ n) (bl : Below w0.heap.size w0 wr) (lo : w0.heap.size ≤ Gb) (lt : w0.heap.size ≤ Gt)
    (x y : W3) (hlen : 0 ≤ len ∧ len ≤ 1000000) (hkn : kn ≤ 12) (hp : 0 ≤ x.p ∧ x.p ≤ 1000000) (hy : 0 ≤ y.h ∧ y.h < 100000) :
    Calls Tryz.prog 142 #[.pointer (some ⟨Gt, 0, none⟩), .agg #[.int .i64 x.h, .int .i64 x.p, .bool x.b], .agg #[.int .i64 y.h, .int .i64 y.p, .bool y.b]] wr fun e w' => e = .returned (.tuple #[]) ∧
      w'.heap[Gt]? = some (.cells (gtC X len c Gb) 214 (0, 0)) ∧ (∃ V', SdP w' w0.heap.size Gb (n + 1) V' (gatA len kn A x y)) ∧ Below w0.heap.size w0 w' ∧ WKeep wr w' := by
  have hXr := (bl.block X (lt_of_block hX)).trans hX
  refine (ganchor_any x y len kn c kn Wn scn rv mv Gt X Gb w0.heap.size n V A wr (okS_of x y hy) (by omega) (by have := hAl (sdOf x y); omega) bl.size hlen rfl hkn hp hgt hXr hV).mono ?_
  rintro e w' ⟨rfl, hV', hs, hk, ho, ht, hu⟩
  have tagk : ∀ g cs t, wr.heap[g]? = some (Obj.cells cs t (0, 0)) → t ≠ 119 → w'.heap[g]? = wr.heap[g]? := fun g cs t hg hne => hk g (lt_of_block hg) (smap_ne hV hg) ((hV.own _ (okS_of x y hy)).tag hne hg)
  refine ⟨rfl, (tagk _ _ _ hgt (by decide)).trans hgt, hV', ⟨ho.trans bl.os, ht.trans bl.tape, hu.trans bl.output, Nat.le_trans bl.size hs, fun g hg => ?_⟩, fun g cs hg => tagk g cs _ hg (by decide)⟩
  rw [hk g (Nat.lt_of_lt_of_le hg bl.size) (by omega) (fun e => by have := ((hV.own _ (okS_of x y hy)).lt e).1; omega)]
  exact bl.block g hg
theorem GwI.count {w0 : World} {X Gt Gb : Nat} {len : Int} {c c' : Nat} {A : Int × Bool → List (Int × Int)} {wr w' : World} (h : GwI w0 X Gt Gb len c A wr) (hu : Upd wr w' Gt (.cells (gtC X len c' Gb) 214 (0, 0))) (hc : c ≤ c') : GwI w0 X Gt Gb len c' A w' ∧ WKeep wr w' ∧ ∀ V n, SdP wr w0.heap.size Gb n V A → SdP w' w0.heap.size Gb n V A := by
  obtain ⟨V, n, hV, h1, h2, h3⟩ := h.sd
  have key : ∀ V n, SdP wr w0.heap.size Gb n V A → SdP w' w0.heap.size Gb n V A := by
    intro V n hV
    obtain ⟨D, hD, r⟩ := hV.map
    exact ⟨⟨D, ownsMap_at hD (hu.other _ (Ne.symm (smap_ne hV h.gt))), r⟩, fun s hs => (hV.own s hs).other (fun g hg _ => hu.other g (fun e => (hV.own s hs).tag (by decide) h.gt (e ▸ hg))), hV.apart⟩
  refine ⟨⟨hu.here, ⟨V, n, key V n hV, by omega, h2, h3⟩, h.bl.trans (hu.below h.lt), h.lo, h.lt⟩, ?_, key⟩
  · intro g cs hg
    refine hu.other g (fun e => ?_)
    rw [e, h.gt] at hg
    simp at hg
set_option maxHeartbeats 4000000 in
theorem gword_any {w0 : World} {X Gt Gb : Nat} {len : Int} {c : Nat} {A : Int × Bool → List (Int × Int)} {wq : World} {kn Wn scn Hb base n0 : Nat} {rv : Value} {V0 : Int → Value} {T : Int → List W3} (hX : w0.heap[X]? = some (.cells (ixC kn Wn scn rv (.map (some Hb))) 147 (0, 0)))
    (hT : HtP w0 base Hb n0 V0 T) (hTo : TOK T) (h : GwI w0 X Gt Gb len c A wq) (x : W3) (hx : okI x.h) (hlen : 0 ≤ len ∧ len ≤ 1000000) (hkn : kn ≤ 12) (hp : 0 ≤ x.p ∧ x.p ≤ 1000000) (hc : c < 1000000000) (hTl : (T x.h).length < 1000000) :
    Calls Tryz.prog 106 #[.pointer (some ⟨Gt, 0, none⟩), .agg #[.int .i64 x.h, .int .i64 x.p, .bool x.b]] wq fun e w' => e = .returned (.tuple #[]) ∧ GwI w0 X Gt Gb len (gatW len kn T (c, A) x).1 (gatW len kn T (c, A) x).2 w' ∧ WKeep wq w' := by
  have HT0 : Hid (HtP w0 base Hb n0 V0 T) := hT
  have HX : Hid (w0.heap[X]? = some (.cells (ixC kn Wn scn rv (.map (some Hb))) 147 (0, 0))) := hX
  have HH : Hid (GwI w0 X Gt Gb len c A wq) := h
  have HTO : Hid (TOK T) := hTo
  have hGl : Gt < wq.heap.size := lt_of_block h.gt
  clear hX hT h hTo
  go_enter Tryz.func106, Tryz.ntmps106
  go_wp2_with fail
  rename_i Q0 K0 hK0
  obtain ⟨wA, hwA⟩ : ∃ W1 : World, W1 = wq.alloc (Obj.cells #[Value.int IntKind.i64 x.h, Value.int IntKind.i64 x.p, Value.bool x.b] 114) := ⟨_, rfl⟩
  have hbA : Below wq.heap.size wq wA := by rw [hwA]; exact (Below.refl _ _).alloc (Nat.le_refl _) _
  have hA0 : wA.heap[wq.heap.size]? = some (.cells #[Value.int IntKind.i64 x.h, Value.int IntKind.i64 x.p, Value.bool x.b] 114 (0, 0)) := by rw [hwA]; exact heap_alloc_new wq _
  have hsA : wA.heap.size = wq.heap.size + 1 := by rw [hwA]; simp
  rw [← hwA]
  clear hwA
  have HA : Hid (GwI w0 X Gt Gb len c A wA) := HH.out.kept hbA
  have hXA : wA.heap[X]? = _ := (HA.out.bl.block X (lt_of_block HX.out)).trans HX.out
  have f0 : wA.drew.cell? ⟨Gt, 0, none⟩ = some (.pointer (some ⟨X, 0, none⟩)) := cell_at HA.out.gt rfl
  have f1 : wA.drew.cell? ⟨X, 4, none⟩ = some (.map (some Hb)) := cell_at hXA rfl
  have f2 : wA.drew.cell? ⟨wq.heap.size, 0, none⟩ = some (.int .i64 x.h) := cell_at hA0 rfl
  have hTA : HtP wA.drew base Hb n0 V0 T := HT0.out.kept (fun g hg => HA.out.bl.block g hg)
  have f3 := hTA.look (t := 145) lawI Tryz.underlying145 (zeroHits _) hx (keyI x.h hx)
  refine wp_region_X 11 (fun W1 => W1.cell? ⟨Gt, 0, none⟩ = some (.pointer (some ⟨X, 0, none⟩)) ∧ W1.cell? ⟨X, 4, none⟩ = some (.map (some Hb)) ∧ W1.cell? ⟨wq.heap.size, 0, none⟩ = some (.int .i64 x.h) ∧ (Instr.lookup 145 (.map (some Hb)) (.int .i64 x.h) false).run Tryz.prog W1 = .ok (V0 x.h) W1) (by kernel_rfl) ⟨f0, f1, f2, f3⟩ (fun hH => ?_)
  refine wpZ 0 hH ?_
  refine wpZ 1 hH ?_
  refine wpZ 2 hH ?_
  refine wpZ 3 hH ?_
  refine wpZ 4 hH ?_
  refine wpZ 5 hH ?_
  refine wpZ 6 hH ?_
  refine wpZ 7 hH ?_
  refine wpZ 8 hH ?_
  refine wpZ 9 hH ?_
  refine wpZ 10 hH ?_
  refine wpAnyX_done (by kernel_rfl) ?_
  refine hK0 _ _ ?_
  clear hK0 hH f0 f1 f2 f3 hTA
  obtain ⟨m, hm⟩ : ∃ m, m = (T x.h).length := ⟨_, rfl⟩
  have HM : Hid (m = (T x.h).length) := hm
  obtain ⟨ao, cp, hv, hsome⟩ : ∃ ao cp, V0 x.h = .slice ao m cp ∧ (m ≠ 0 → ∃ g o cur, ao = some ⟨g, o, none⟩ ∧ w0.heap[g]? = some (Obj.cells cur 99 (0, 0)) ∧ ∀ j u, (wcells (T x.h))[j]? = some u → cur[o + j]? = some u) := by
    rcases (HT0.out.own x.h hx).2 with ⟨h, h0⟩ | ⟨g, o, cap, cur, h, _, hg, _, _, _, hc⟩
    · exact ⟨none, 0, by rw [h, hm, h0], fun h' => absurd (hm.trans h0) h'⟩
    · exact ⟨_, _, by rw [hm]; exact h, fun _ => ⟨g, o, cur, rfl, hg, hc⟩⟩
  rw [hv]
  have HSO : Hid (m ≠ 0 → ∃ g o cur, ao = some ⟨g, o, none⟩ ∧ w0.heap[g]? = some (Obj.cells cur 99 (0, 0)) ∧ ∀ j u, (wcells (T x.h))[j]? = some u → cur[o + j]? = some u) := hsome
  have hml : m < 1000000 := by omega
  have hwc : IntKind.i64.wrap ((c : Int) + m) = (c : Int) + m := by rw [IntKind.wrap_i64]; omega
  have q2 : wA.drew.cell? ⟨Gt, 2, none⟩ = some (.int .i64 c) := cell_at HA.out.gt rfl
  have qf : wA.drew.frozen? ⟨Gt, 2, none⟩ = false := frozen_of_row _ _ _ _ _ HA.out.gt
  obtain ⟨wB, hwB⟩ : ∃ W1 : World, W1 = (wA.setCell ⟨Gt, 2, none⟩ (.int .i64 ((c : Int) + m))).drew := ⟨_, rfl⟩
  have hU : Upd wA wB Gt (.cells (gtC X len (c + m) Gb) 214 (0, 0)) := by
    rw [hwB]
    have := Upd.of_setCell (w := wA) (i := 2) (.int .i64 ((c : Int) + m)) HA.out.gt
    refine ⟨this.os, this.tape, this.output, this.size, ?_, this.other⟩
    rw [show gtC X len (c + m) Gb = (gtC X len c Gb).setIfInBounds 2 (.int .i64 ((c : Int) + m)) from rfl]
    exact this.here
  have q3 : wB.cell? ⟨Gt, 2, none⟩ = some (.int .i64 ((c : Int) + m)) := cell_at hU.here rfl
  obtain ⟨hB1, hB2, hB3⟩ := HA.out.count hU (by omega)
  obtain ⟨V, n, hV0, hn1, hn2, hn3⟩ := HA.out.sd
  have HV0 : Hid (SdP wB w0.heap.size Gb n V A) := hB3 V n hV0
  have HN3 : Hid (∀ s, (A s).length ≤ n) := hn3
  have HB : Hid (GwI w0 X Gt Gb len (c + m) A wB) := hB1
  have HKB : Hid (WKeep wq wB) := (WKeep.below hbA).trans hB2
  have hB0 : wB.heap[wq.heap.size]? = some (.cells #[Value.int IntKind.i64 x.h, Value.int IntKind.i64 x.p, Value.bool x.b] 114 (0, 0)) := (hU.other _ (by omega)).trans hA0
  have HB0 : Hid (wB.heap[wq.heap.size]? = some (.cells #[Value.int IntKind.i64 x.h, Value.int IntKind.i64 x.p, Value.bool x.b] 114 (0, 0))) := hB0
  clear hB1 hB2 hB3 hV0 hn3 hU hsome hm hv hXA hbA hA0 hB0
  go_upto_region 3 with fail
  rw [← hwB]
  clear hwB q2 qf
  by_cases hbig : 400 < c + m
  · have HR : Hid (gatW len kn T (c, A) x = (c + m, A)) := by show _ = _; unfold gatW; rw [← HM.out, if_pos hbig]
    have hbi : (400 : Int) < (c : Int) + m := by omega
    go_wp2_with fail
    refine bodyPost_ret (results_none rfl _ _ _) rfl ?_
    rw [HR.out]
    exact ⟨rfl, HB.out, HKB.out⟩
  · have hbi : ¬ (400 : Int) < (c : Int) + m := by omega
    go_wp2_with fail
    have HR : Hid (gatW len kn T (c, A) x = (c + m, (T x.h).foldl (fun A y => gatA len kn A x y) A)) := by show _ = _; unfold gatW; rw [← HM.out, if_neg hbig]
    go_loopw [33] (fun i wx => ∃ j : Nat, j ≤ m ∧ i = .int .i64 j ∧ wx.heap[Gt]? = some (.cells (gtC X len (c + m) Gb) 214 (0, 0)) ∧ (∃ V', SdP wx w0.heap.size Gb (n + j) V' (((T x.h).take j).foldl (fun A y => gatA len kn A x y) A)) ∧ Below w0.heap.size w0 wx ∧ WKeep wB wx) (fun i _ => m - (RowKit.intOf i).toNat)
    case atStart => exact ⟨0, Nat.zero_le _, rfl, HB.out.gt, ⟨V, HV0.out⟩, HB.out.bl, fun _ _ _ => rfl⟩
    case round =>
      obtain ⟨j, hj, rfl, hgt, ⟨V', hV'⟩, hbl, hwk⟩ := hrel
      have HGT : Hid (wr.heap[Gt]? = some (.cells (gtC X len (c + m) Gb) 214 (0, 0))) := hgt
      have HV' : Hid (SdP wr w0.heap.size Gb (n + j) V' (((T x.h).take j).foldl (fun A y => gatA len kn A x y) A)) := hV'
      have HBL : Hid (Below w0.heap.size w0 wr) := hbl
      have HWK : Hid (WKeep wB wr) := hwk
      clear hgt hV' hbl hwk
      by_cases hlt : j < m
      · obtain ⟨g, o, cur, rfl, hgc, hcc⟩ := HSO.out (by omega)
        have hgr : wr.heap[g]? = some (Obj.cells cur 99 (0, 0)) := (HBL.out.block g (lt_of_block hgc)).trans hgc
        have hjL : j < (T x.h).length := by have := HM.out; omega
        obtain ⟨y, hy⟩ : ∃ y, y = (T x.h)[j] := ⟨_, rfl⟩
        have hw := wcells_at (T x.h) j hjL
        rw [Nat.mul_comm 3 j, ← hy] at hw
        have d0 : wr.cell? ⟨g, o + j * 3, none⟩ = some (.int .i64 y.h) := cell_at hgr (hcc _ _ hw.1)
        have d1 : wr.cell? ⟨g, o + j * 3 + 1, none⟩ = some (.int .i64 y.p) := cell_at hgr (hcc _ _ hw.2.1)
        have d2 : wr.cell? ⟨g, o + j * 3 + 2, none⟩ = some (.bool y.b) := cell_at hgr (hcc _ _ hw.2.2)
        have hx0 : wr.heap[wq.heap.size]? = some (.cells #[Value.int IntKind.i64 x.h, Value.int IntKind.i64 x.p, Value.bool x.b] 114 (0, 0)) := (HWK.out _ _ HB0.out).trans HB0.out
        have e0 := cell_at hx0 (i := 0) rfl
        have e1 := cell_at hx0 (i := 1) rfl
        have e2 := cell_at hx0 (i := 2) rfl
        have hyo := HTO.out x.h y (by rw [hy]; exact List.getElem_mem _)
        have HY : Hid (y = (T x.h)[j]) := hy
        have hxl : wq.heap.size < wr.heap.size := lt_of_block hx0
        have hgl : g < wr.heap.size := lt_of_block hgr
        clear hw hy hx0 hgr
        go_wp2_with fail
        have hbw : Below wr.heap.size wr (wr.alloc (Obj.cells #[Value.int IntKind.i64 y.h, Value.int IntKind.i64 y.p, Value.bool y.b] 99)) := (Below.refl _ _).alloc (Nat.le_refl _) _
        have hfl : ∀ (L : List W3) (A : Int × Bool → List (Int × Int)) (q : Nat), (∀ s, (A s).length ≤ q) → ∀ s, (L.foldl (fun A y => gatA len kn A x y) A s).length ≤ q + L.length := by
          intro L
          induction L with
          | nil => intro A q h s; exact h s
          | cons a t ih => intro A q h s; have := ih (gatA len kn A x a) (q + 1) (gatA_len len kn A x a q h) s; simp only [List.foldl_cons, List.length_cons]; omega
        refine (GwI.step (c := c + m) HX.out ((hbw.block _ (lt_of_block HGT.out)).trans HGT.out) V' (n + j) (HV'.out.kept (fun g hg => hbw.block g hg)) (by omega) (fun s => by have := hfl ((T x.h).take j) A n HN3.out s; simp only [List.length_take] at this; omega) (HBL.out.trans (hbw.mono HBL.out.size)) HB.out.lo HB.out.lt x y hlen hkn hp ⟨hyo.1, hyo.2.1⟩).mono ?_
        rintro e w2 ⟨rfl, hg2, ⟨V2, hV2⟩, hb2, hk2⟩
        have HG2 : Hid (w2.heap[Gt]? = some (.cells (gtC X len (c + m) Gb) 214 (0, 0))) := hg2
        have HV2 : Hid (SdP w2 w0.heap.size Gb (n + (j + 1)) V2 (((T x.h).take (j + 1)).foldl (fun A y => gatA len kn A x y) A)) := by
          show SdP _ _ _ _ _ _
          rw [List.take_add_one, List.getElem?_eq_getElem hjL, List.foldl_append, ← HY.out]
          exact hV2
        have HB2 : Hid (Below w0.heap.size w0 w2) := hb2
        have HK2 : Hid (WKeep wB w2) := HWK.out.trans ((WKeep.below hbw).trans hk2)
        clear hg2 hV2 hb2 hk2 hbw hfl d0 d1 d2 e0 e1 e2
        go_wp2
        go_roundw
        case rel => exact ⟨j + 1, by omega, by go_num, HG2.out, ⟨V2, HV2.out⟩, HB2.out, HK2.out⟩
        case measure => simp [RowKit.intOf]; omega
      · have hjm : j = m := by omega
        subst hjm
        go_wp2
        go_end0
        rw [HR.out]
        refine ⟨rfl, ⟨HGT.out, ⟨V', n + j, ?_, by omega, by omega, ?_⟩, HBL.out, HB.out.lo, HB.out.lt⟩, HKB.out.trans HWK.out⟩
        · have := HV'.out
          rw [HM.out, List.take_length] at this
          rw [HM.out]; exact this
        · intro s
          have : ∀ (L : List W3) (A : Int × Bool → List (Int × Int)) (q : Nat), (∀ s, (A s).length ≤ q) → ∀ s, (L.foldl (fun A y => gatA len kn A x y) A s).length ≤ q + L.length := by
            intro L
            induction L with
            | nil => intro A q h s; exact h s
            | cons a t ih => intro A q h s; have := ih (gatA len kn A x a) (q + 1) (gatA_len len kn A x a q h) s; simp only [List.foldl_cons, List.length_cons]; omega
          have := this (T x.h) A n HN3.out s
          rw [HM.out]; exact this
end Go.Proofs.YtilcmkiihefkkaaGreatDoor.Mn
end
section
set_option linter.unusedVariables false
set_option linter.unusedSimpArgs false
set_option maxRecDepth 100000
namespace Go.Proofs.YtilcmkiihefkkaaGreatDoor.Mn
open Go.RowKit Go.Maps Go.MapKept Go.ChangeMaps
theorem enterGword (args : Array Value) (w : World) : (callFunc 106 args).run Tryz.prog w = .ok (.enter 106 args) w := enter_of Tryz.func106 (by kernel_rfl) rfl args w
/-- all anchors of a read: how many, and by sides -/
def gat (k W : Nat) (R : List S2) (s : ByteArray) : Nat × (Int × Bool → List (Int × Int)) := (wds k W s).foldl (gatW s.size k (tabN k W R R.length)) (0, fun _ => [])
theorem gatW_cnt (len k : Int) (T : Int → List W3) (st : Nat × (Int × Bool → List (Int × Int))) (x : W3) : (gatW len k T st x).1 = st.1 + (T x.h).length := by
  unfold gatW; split <;> rfl
theorem gatL_cnt (len k : Int) (T : Int → List W3) (M : Nat) (hM : ∀ h, (T h).length ≤ M) : ∀ (L : List W3) (st : Nat × (Int × Bool → List (Int × Int))), (L.foldl (gatW len k T) st).1 ≤ st.1 + L.length * M
  | [], st => by simp
  | x :: t, st => by
    have := gatL_cnt len k T M hM t (gatW len k T st x)
    rw [gatW_cnt] at this
    have h2 := hM x.h
    simp only [List.foldl_cons, List.length_cons, Nat.add_mul]
    omega
theorem tab_ok {k W : Nat} (hk1 : 1 ≤ k) (hk2 : k ≤ 12) (hW : 1 ≤ W) (R : List S2) (hR : ∀ x ∈ R, good x.b) (hs : sumN R R.length ≤ 4000) (hl : R.length < 100000) : ∀ j, j ≤ R.length → TOK (tabN k W R j) := by
  intro j
  induction j with
  | zero => intro _ h y hy; simp [tabN] at hy
  | succ j ih =>
    intro hj
    have hm : R.getD j S0 ∈ R := by rw [getD_get _ _ _ (by omega)]; exact List.getElem_mem _
    have hsz : (R.getD j S0).b.size ≤ 4000 := by
      have := sumN_mono R (j + 1) R.length hj
      have e : sumN R (j + 1) = sumN R j + (R.getD j S0).b.size := rfl
      omega
    have key : ∀ (L : List W3) (T : Int → List W3), (∀ x ∈ L, 0 ≤ x.p ∧ x.p ≤ 100000) → TOK T → TOK (entL j T L) := by
      intro L
      induction L with
      | nil => intro T _ h; exact h
      | cons x t iht =>
        intro T hx h
        refine iht (entW j T x) (fun y hy => hx y (List.mem_cons_of_mem _ hy)) ?_
        intro a y hy
        unfold entW updF at hy
        split at hy
        · rcases List.mem_append.1 hy with hy | hy
          · exact h _ y hy
          · simp at hy
            subst hy
            have := hx x (List.mem_cons_self)
            exact ⟨by show (0 : Int) ≤ (j : Nat); omega, by show ((j : Nat) : Int) < 100000; omega, this.1, this.2⟩
        · exact h _ y hy
    refine key _ _ (fun x hx => ?_) (ih (by omega))
    have := wds_ok hk1 hk2 hW (hR _ hm) hx
    omega
/-- what anchors answers -/
def AnP (w : World) (k W : Nat) (R : List S2) (s : ByteArray) (e : Ending) (w' : World) : Prop :=
  Below w.heap.size w w' ∧ ((400 < (gat k W R s).1 ∧ e = .returned (.map none)) ∨ ((gat k W R s).1 ≤ 400 ∧ ∃ Gb V n, e = .returned (.map (some Gb)) ∧ SdP w' w.heap.size Gb n V (gat k W R s).2 ∧ n ≤ 400 ∧ (∀ q, ((gat k W R s).2 q).length ≤ 400) ∧ w.heap.size ≤ Gb))
set_option maxHeartbeats 4000000 in
theorem anchors_any (R : List S2) (base X k W sc : Nat) (s : ByteArray) (w : World) (hk1 : 1 ≤ k) (hk2 : k ≤ 12) (hW : 1 ≤ W) (hW2 : W ≤ 20) (hR : ∀ x ∈ R, good x.b) (hl : R.length < 100000) (hsum : sumN R R.length ≤ 4000) (hI : IxP w base X R k W sc) (hs : s.size ≤ 100000) (hg : good s) :
    Calls Tryz.prog 78 #[.pointer (some ⟨X, 0, none⟩), .string s] w fun e w' => AnP w k W R s e w' := by
  obtain ⟨rv, Hb, V0, hX, hO, hT, _, _⟩ := hI
  have hmm : ∀ W', _ := fun W' => run_makeMap (P := Tryz.prog) 175 W'
  have hTl := tabN_len hk1 hk2 hW R hR R.length (Nat.le_refl _)
  have hTO := tab_ok hk1 hk2 hW R hR hsum hl R.length (Nat.le_refl _)
  have hwl := wds_len hk1 hk2 hW hg (W := W) (k := k)
  have HX : Hid (w.heap[X]? = some (.cells (ixC k W sc rv (.map (some Hb))) 147 (0, 0))) := hX
  have HT : Hid (HtP w base Hb 4000 V0 (tabN k W R R.length)) := hT
  have hXl : X < w.heap.size := lt_of_block hX
  have HTL : Hid (∀ a, (tabN k W R R.length a).length ≤ sumN R R.length) := hTl
  have HTO : Hid (TOK (tabN k W R R.length)) := hTO
  clear hX hT hO hTl hTO
  go_enter Tryz.func78, Tryz.ntmps78
  go_wp2_with fail
  obtain ⟨wA, hwA⟩ : ∃ W1 : World, W1 = (w.alloc (Obj.map #[] 0)).alloc (Obj.cells #[Value.pointer (some { block := X, off := 0 }), Value.int IntKind.i64 ↑s.size, Value.int IntKind.i64 0, Value.map (some w.heap.size)] 214) := ⟨_, rfl⟩
  rw [← hwA]
  have hbA : Below w.heap.size w wA := by rw [hwA]; exact ((Below.refl _ _).alloc (Nat.le_refl _) _).alloc (by simp) _
  have hG0 : GwI w X (w.heap.size + 1) w.heap.size s.size 0 (fun _ => []) wA := by
    refine ⟨?_, ⟨fun _ => nilS, 0, ?_, Nat.le_refl _, by omega, fun _ => Nat.le_refl _⟩, hbA, Nat.le_refl _, by omega⟩
    · have := heap_alloc_new (w.alloc (Obj.map #[] 0)) (Obj.cells #[Value.pointer (some { block := X, off := 0 }), Value.int IntKind.i64 ↑s.size, Value.int IntKind.i64 0, Value.map (some w.heap.size)] 214)
      have e1 : (w.alloc (Obj.map #[] 0)).heap.size = w.heap.size + 1 := by simp
      rw [e1] at this
      rw [hwA]; exact this
    · have h1 := GrP.made w Tryz.prog kS okS acells rfl 178 119 2 w.heap.size
      rw [hwA]
      exact h1.kept (fun j hj => Below.heap_alloc _ _ j hj)
  have hXA := (hbA.block X hXl).trans HX.out
  clear hwA
  have cEW := eachWord_any 106 enterGword (.pointer (some ⟨w.heap.size + 1, 0, none⟩)) s X k W sc rv (.map (some Hb)) wA (by omega) hk1 hk2 hW hW2 hg hXA
    (fun i wr => GwI w X (w.heap.size + 1) w.heap.size s.size (((wds k W s).take i).foldl (gatW s.size k (tabN k W R R.length)) (0, fun _ => [])).1 (((wds k W s).take i).foldl (gatW s.size k (tabN k W R R.length)) (0, fun _ => [])).2 wr)
    (fun i hi wr hGI => by
      have hok := wds_ok hk1 hk2 hW hg (List.getElem_mem hi)
      have hcnt := gatL_cnt s.size k (tabN k W R R.length) _ HTL.out ((wds k W s).take i) (0, fun _ => [])
      rw [List.take_add_one, List.getElem?_eq_getElem hi, List.foldl_append]
      refine gword_any HX.out HT.out HTO.out hGI (wds k W s)[i] (okI_of hok.1 hok.2.1) (by omega) hk2 (by omega) ?_ (by have := HTL.out (wds k W s)[i].h; omega)
      simp only [List.length_take] at hcnt
      have h4 : min i (wds k W s).length * sumN R R.length ≤ 100000 * 4000 := Nat.mul_le_mul (by omega) hsum
      omega)
    (fun i wr w' hGI hb => hGI.kept hb) hG0 (by omega)
  refine cEW.mono ?_
  rintro e w2 ⟨rfl, hI2⟩
  rw [List.take_length] at hI2
  have HI2 : Hid (GwI w X (w.heap.size + 1) w.heap.size s.size (gat k W R s).1 (gat k W R s).2 w2) := hI2
  have q2 : w2.cell? ⟨w.heap.size + 1, 2, none⟩ = some (.int .i64 ((gat k W R s).1 : Nat)) := cell_at HI2.out.gt rfl
  have q3 : w2.cell? ⟨w.heap.size + 1, 3, none⟩ = some (.map (some w.heap.size)) := cell_at HI2.out.gt rfl
  clear hI2 cEW hXA hG0 hbA
  by_cases hbig : 400 < (gat k W R s).1
  · have hbi : (400 : Int) < ((gat k W R s).1 : Nat) := by omega
    go_wp2
    go_ret
    exact ⟨HI2.out.bl, Or.inl ⟨hbig, rfl⟩⟩
  · have hbi : ¬ (400 : Int) < ((gat k W R s).1 : Nat) := by omega
    go_wp2
    go_ret
    obtain ⟨V, n, hV, h1, h2, h3⟩ := HI2.out.sd
    exact ⟨HI2.out.bl, Or.inr ⟨by omega, w.heap.size, V, n, rfl, hV, h2, fun q => Nat.le_trans (h3 q) h2, Nat.le_refl _⟩⟩
end Go.Proofs.YtilcmkiihefkkaaGreatDoor.Mn
end
section
set_option linter.unusedVariables false
set_option linter.unusedSimpArgs false
namespace Go.Proofs.YtilcmkiihefkkaaGreatDoor.Mn
open Go.RowKit
/-- an anchor and its side: of which words -/
def AnOf (k W : Nat) (R : List S2) (s : ByteArray) (q : Int × Bool) (a : Int × Int) : Prop :=
  ∃ x ∈ wds k W s, ∃ i : Nat, i < R.length ∧ ∃ y ∈ wds k W (R.getD i S0).b, x.h = y.h ∧ q = ((i : Int), x.b != y.b) ∧ a = (if (x.b != y.b) = true then (s.size : Int) - k - x.p else x.p, y.p)
theorem entL_mem (i : Nat) : ∀ (L : List W3) (T : Int → List W3) (h : Int) (z : W3), z ∈ entL i T L h → z ∈ T h ∨ ∃ y ∈ L, y.h = h ∧ z = ⟨i, y.p, y.b⟩
  | [], T, h, z, hz => Or.inl hz
  | x :: t, T, h, z, hz => by
    rcases entL_mem i t (entW i T x) h z hz with hm | ⟨y, hy, e⟩
    · unfold entW updF at hm
      split at hm
      · rename_i he
        have he := (eqI_iff _ _).1 he
        rcases List.mem_append.1 hm with hm | hm
        · left; rw [he]; exact hm
        · right
          simp at hm
          exact ⟨x, List.mem_cons_self, he.symm, hm⟩
      · exact Or.inl hm
    · exact Or.inr ⟨y, List.mem_cons_of_mem _ hy, e⟩
theorem tab_mem (k W : Nat) (R : List S2) : ∀ (j : Nat) (h : Int) (z : W3), z ∈ tabN k W R j h → ∃ i, i < j ∧ ∃ y ∈ wds k W (R.getD i S0).b, y.h = h ∧ z = ⟨i, y.p, y.b⟩
  | 0, h, z, hz => by simp [tabN] at hz
  | j + 1, h, z, hz => by
    rcases entL_mem j _ _ h z hz with hm | ⟨y, hy, e⟩
    · obtain ⟨i, hi, r⟩ := tab_mem k W R j h z hm
      exact ⟨i, by omega, r⟩
    · exact ⟨j, by omega, y, hy, e⟩
theorem gat_mem (k W : Nat) (R : List S2) (s : ByteArray) (q : Int × Bool) (a : Int × Int) (h : a ∈ (gat k W R s).2 q) : AnOf k W R s q a := by
  have key : ∀ (L : List W3) (st : Nat × (Int × Bool → List (Int × Int))), (∀ x ∈ L, x ∈ wds k W s) → (∀ q a, a ∈ st.2 q → AnOf k W R s q a) → ∀ q a, a ∈ (L.foldl (gatW s.size k (tabN k W R R.length)) st).2 q → AnOf k W R s q a := by
    intro L
    induction L with
    | nil => intro st _ h q a ha; exact h q a ha
    | cons x t ih =>
      intro st hx h
      refine ih (gatW s.size k (tabN k W R R.length) st x) (fun y hy => hx y (List.mem_cons_of_mem _ hy)) ?_
      intro q a ha
      unfold gatW at ha
      split at ha
      · exact h q a ha
      · have inner : ∀ (M : List W3) (A : Int × Bool → List (Int × Int)), (∀ y ∈ M, y ∈ tabN k W R R.length x.h) → (∀ q a, a ∈ A q → AnOf k W R s q a) → ∀ q a, a ∈ (M.foldl (fun A y => gatA s.size k A x y) A) q → AnOf k W R s q a := by
          intro M
          induction M with
          | nil => intro A _ h q a ha; exact h q a ha
          | cons y u ihu =>
            intro A hy hA
            refine ihu (gatA s.size k A x y) (fun z hz => hy z (List.mem_cons_of_mem _ hz)) ?_
            intro q a ha
            unfold gatA updF at ha
            split at ha
            · rename_i he
              have he := (eqS_iff _ _).1 he
              rcases List.mem_append.1 ha with ha | ha
              · rw [he]; exact hA _ a ha
              · simp at ha
                obtain ⟨i, hi, z, hz, hzh, rfl⟩ := tab_mem k W R _ _ _ (hy y (List.mem_cons_self))
                exact ⟨x, hx x (List.mem_cons_self), i, hi, z, hz, hzh.symm, he, ha⟩
            · exact hA q a ha
        exact inner _ _ (fun y hy => hy) h q a ha
  exact key (wds k W s) (0, fun _ => []) (fun x hx => hx) (fun q a ha => by simp at ha) q a h
theorem getD_mem (R : List S2) (i : Nat) (h : i < R.length) : R.getD i S0 ∈ R := by rw [getD_get _ _ _ h]; exact List.getElem_mem _
/-- the numbers of an anchor -/
theorem AnOf.bounds {k W : Nat} {R : List S2} {s : ByteArray} {q : Int × Bool} {a : Int × Int} (h : AnOf k W R s q a) (hk1 : 1 ≤ k) (hk2 : k ≤ 12) (hW : 1 ≤ W) (hR : ∀ x ∈ R, good x.b) (hg : good s) :
    0 ≤ q.1 ∧ q.1 < R.length ∧ 0 ≤ a.1 ∧ a.1 + k ≤ s.size ∧ 0 ≤ a.2 ∧ a.2 + k ≤ (R.getD q.1.toNat S0).b.size := by
  obtain ⟨x, hx, i, hi, y, hy, hh, rfl, rfl⟩ := h
  have h1 := wds_ok hk1 hk2 hW hg hx
  have h2 := wds_ok hk1 hk2 hW (hR _ (getD_mem R i hi)) hy
  refine ⟨by show (0 : Int) ≤ (i : Nat); omega, by show ((i : Nat) : Int) < _; omega, ?_, ?_, h2.2.2.1, by simpa using h2.2.2.2⟩
  · show 0 ≤ (if _ then _ else _ : Int)
    split
    · have h3 : (0 : Int) ≤ (s.size : Int) - k - x.p := by omega
      exact h3
    · omega
  · show (if _ then _ else _ : Int) + _ ≤ _
    split
    · have h3 : (s.size : Int) - k - x.p + k ≤ s.size := by omega
      exact h3
    · omega
/-- the bases of an anchor's word are the same on both sides -/
theorem AnOf.same {k W : Nat} {R : List S2} {s : ByteArray} {q : Int × Bool} {a : Int × Int} (h : AnOf k W R s q a) (hk1 : 1 ≤ k) (hk2 : k ≤ 12) (hW : 1 ≤ W) (hR : ∀ x ∈ R, good x.b) (hg : good s) :
    seg (nums (if q.2 = true then turnL s.data.toList else s.data.toList)) a.1.toNat k = seg (nums (R.getD q.1.toNat S0).b.data.toList) a.2.toNat k ∧ (∀ m ∈ seg (nums (R.getD q.1.toNat S0).b.data.toList) a.2.toNat k, m < 4) := by
  obtain ⟨x, hx, i, hi, y, hy, hh, rfl, rfl⟩ := h
  obtain ⟨p, hp⟩ := wds_mem hk1 hk2 hW hg hx
  obtain ⟨r, hr⟩ := wds_mem hk1 hk2 hW (hR _ (getD_mem R i hi)) hy
  have hm := cand_match hk1 hk2 hp hr hh
  have e1 := (candW_cases hp).1
  have e2 := (candW_cases hr).1
  have hl := (isW_seg (candW_isW hp)).1
  have en : (nums s.data.toList).length = s.size := by simp [nums]
  have eri : ((i : Nat) : Int).toNat = i := by simp
  simp only [eri, e2]
  refine ⟨?_, by simpa using (isW_seg (candW_isW hr)).2.1⟩
  by_cases hb : x.b = y.b
  · have hb2 : (x.b != y.b) = false := by simp [hb]
    rw [hb2, e1]
    simp only [Bool.false_eq_true, if_false]
    simpa using (hm.1 hb).symm
  · have hb2 : (x.b != y.b) = true := by simpa using hb
    rw [hb2, e1]
    simp only [if_true]
    rw [nums_turnL, show ((s.size : Int) - k - (p : Nat)).toNat = (nums s.data.toList).length - k - p by rw [en]; omega, seg_turned _ k p (candW_isW hp)]
    simpa using (hm.2 hb).symm
end Go.Proofs.YtilcmkiihefkkaaGreatDoor.Mn
end
