import Derived.Laws.IdiomRangeMap
import Derived.Test.YtilcmkiihefkkabGreatDoorJk26
import Derived.Test.YtilcmkiihefkkabGreatDoorJk27
import Derived.Test.YtilcmkiihefkkabGreatDoorJk38
import Derived.Test.YtilcmkiihefkkabGreatDoorJk39
import Derived.Test.YtilcmkiihefkkabGreatDoorJk40
section
set_option linter.unusedVariables false
set_option linter.unusedSimpArgs false
set_option maxRecDepth 100000
namespace Go.Proofs.YtilcmkiihefkkabGreatDoor.Mn
open Go.RowKit Go.Shelf Go.Lib Go.Sort Go.Maps
theorem Tryz.info112x : (Tryz.prog.info? 112).map (fun i => (i.zero, i.size, i.bytes)) = some (some (.agg #[.int .i64 0, .bool false, .slice none 0 0, .float .f64 0]), 4, 48) := by kernel_rfl
theorem invS (key : Value) (kl : Lit) (h : keyOf Tryz.prog 109 key = some kl) : ∃ x : Int × Bool, key = vS x := by
  obtain ⟨xs, L, rfl, hl, _⟩ := keyOf_top wideS h
  have hc : Tryz.prog.cellsOf 109 = 2 := by kernel_rfl
  have hc3 : Tryz.prog.cellsOf 3 = 1 := by kernel_rfl
  have hc4 : Tryz.prog.cellsOf 4 = 1 := by kernel_rfl
  obtain ⟨m, hm⟩ : ∃ m, Tryz.prog.types.size + 1 = m + 2 := ⟨Tryz.prog.types.size - 1, by have h : (109 : Nat) < Tryz.prog.types.size := rowS_; omega⟩
  rw [hm] at hl
  unfold Program.keyLits at hl
  rw [Tryz.underlying109] at hl
  simp only [hc] at hl
  split at hl
  · rename_i hlen
    match hx : xs.toList, hlen.1 with
    | [a, b], _ =>
      rw [hx] at hl
      simp [hc3, hc4, Program.keyLits, Tryz.underlying3, Tryz.underlying4] at hl
      have ea : ∃ n, a = .int .i64 n := by
        cases a with
        | int q n =>
          by_cases hq : q = IntKind.i64
          · subst hq; exact ⟨n, rfl⟩
          · simp [hq] at hl
        | _ => simp at hl
      obtain ⟨n, rfl⟩ := ea
      have eb : ∃ c, b = .bool c := by
        cases b with
        | bool c => exact ⟨c, rfl⟩
        | _ => by_cases hw : (Lit.int .i64 n).wf = true <;> simp [hw] at hl
      obtain ⟨c, rfl⟩ := eb
      refine ⟨(n, c), ?_⟩
      have : xs = #[.int .i64 n, .bool c] := by rw [← Array.toArray_toList (xs := xs), hx]
      rw [this]; rfl
  · cases hl
structure Sk where
  n : Int
  b : Bool
def vK (x : Sk) : Value := .agg #[.int .i64 x.n, .bool x.b]
theorem invK (key : Value) (kl : Lit) (h : keyOf Tryz.prog 109 key = some kl) : ∃ x : Sk, key = vK x := by
  obtain ⟨x, rfl⟩ := invS key kl h
  exact ⟨⟨x.1, x.2⟩, rfl⟩
/-- what Chain says of a side -/
def ansQ (L : List (Int × Int)) (k : Int) : Int := if errC L k = 0 then chQ k L else 0
theorem fq0 : fq 0 = 0 := by decide
theorem ansF_q (L : List (Int × Int)) (k : Int) : ansF L k = fq (ansQ L k) := by unfold ansF ansQ; split; rfl; exact fq0.symm
theorem ansQ_bd (L : List (Int × Int)) (k : Int) : 0 ≤ ansQ L k ∧ ansQ L k ≤ 100000 := by
  unfold ansQ
  split
  · rename_i h; have := chQ_bound L k h; exact ⟨this.1, this.2.1⟩
  · omega
/-- candidates under way -/
structure CdI (w : World) (G : Int × Bool → List (Int × Int)) (k : Int) (Gb r n : Nat) (D : DataW Value) (left : Lit → Bool) (cnt : Nat) (lv : Value) (Vc : Int × Bool → Value) (L : List Cd) (wr : World) : Prop where
  rg : wr.ranges Tryz.prog 109 rawR Gb r n D left cnt
  ls : OwnR wr w.heap.size 112 4 lv L.length (L.flatMap (encC Vc (fun q => ansQ (G q) k)))
  nn : lv.ownBlock ≠ none
  ch : ∀ a ∈ L, OwnR wr w.heap.size 140 2 (Vc (sd a)) (ansM (G (sd a)) k).length (acells (ansM (G (sd a)) k))
  nd : L.Nodup
  mem : ∀ a, a ∈ L ↔ (G (sd a) ≠ [] ∧ left (kS (sd a)) = false)
  one : ∀ q, (Vc q).oneCell' = true
  bl : Below w.heap.size w wr
  cn : L.length + cnt ≤ Maps.size D
  lw : w.heap.size ≤ r
/-- what candidates answers -/
def CaP (G : Int × Bool → List (Int × Int)) (k : Int) (w : World) (e : Ending) (w' : World) : Prop :=
  ∃ (v : Value) (Vc : Int × Bool → Value) (C : List Cd), e = .returned v ∧ Below w.heap.size w w' ∧ OwnR w' w.heap.size 112 4 v C.length (C.flatMap (encC Vc (fun q => ansQ (G q) k))) ∧ (∀ a ∈ C, OwnR w' w.heap.size 140 2 (Vc (sd a)) (ansM (G (sd a)) k).length (acells (ansM (G (sd a)) k))) ∧
    C.Pairwise (ltC (fun q => ansQ (G q) k)) ∧ (∀ a, a ∈ C ↔ G (sd a) ≠ []) ∧ C.length ≤ 400
theorem ranges_at {P : Program} {K : TypeId} {R : Value → Option (DataW Value × List MemPlace)} {w w' : World} {b r n : Nat} {D : DataW Value} {left : Lit → Bool} {cnt : Nat} (h : w.ranges P K R b r n D left cnt) (hb : w'.heap[b]? = w.heap[b]?) (hr : w'.heap[r]? = w.heap[r]?) : w'.ranges P K R b r n D left cnt := by
  obtain ⟨es, clock, since, seen, c0, h1, F, h2, h3, h4, rest⟩ := h
  exact ⟨es, clock, since, seen, c0, hb.trans h1, F, h2, h3, hr.trans h4, rest⟩
theorem ranges_blocks {P : Program} {K : TypeId} {R : Value → Option (DataW Value × List MemPlace)} {w : World} {b r n : Nat} {D : DataW Value} {left : Lit → Bool} {cnt : Nat} (h : w.ranges P K R b r n D left cnt) {base : Nat} {e : TypeId} {size : Nat} {v : Value} {m : Nat} {xs : List Value} (ho : OwnR w base e size v m xs) : v.ownBlock ≠ some b ∧ v.ownBlock ≠ some r := by
  obtain ⟨es, clock, since, seen, c0, h1, F, h2, h3, h4, rest⟩ := h
  obtain ⟨_, ho⟩ := ho
  rcases ho with ⟨rfl, _⟩ | ⟨g, o, cap, cur, rfl, _, hg, _⟩
  · simp [Value.ownBlock]
  · simp only [Value.ownBlock, ne_eq, Option.some.injEq]
    constructor
    · intro e; rw [e, h1] at hg; cases hg
    · intro e; rw [e, h4] at hg; cases hg
theorem cbox_cells (W : World) (a b c d : Value) (s : Nat) (hs : s = W.heap.size) : ∀ j u, ([a, b, c, d] : List Value)[j]? = some u → (W.alloc (.cells #[a, b, c, d] 112)).cell? ((⟨s, 0, none⟩ : Addr).add j) = some u := by
  intro j u hj
  subst hs
  have h := heap_alloc_new W (.cells #[a, b, c, d] 112)
  rw [Addr.add_lit, cell_of_row _ _ _ _ _ _ h]
  match j, hj with
  | 0, hj => simpa using hj
  | 1, hj => simpa using hj
  | 2, hj => simpa using hj
  | 3, hj => simpa using hj
theorem encC_congr (Vc Vc' : Int × Bool → Value) (Q : Int × Bool → Int) (L : List Cd) (h : ∀ a ∈ L, Vc' (sd a) = Vc (sd a)) : L.flatMap (encC Vc' Q) = L.flatMap (encC Vc Q) := by
  induction L with
  | nil => rfl
  | cons x t ih =>
    rw [List.flatMap_cons, List.flatMap_cons, ih (fun a ha => h a (List.mem_cons_of_mem _ ha))]
    unfold encC
    rw [h x (List.mem_cons_self)]
theorem ltC_sorted (Q : Int × Bool → Int) (L : List Cd) (hn : L.Nodup) : (L.mergeSort (leC Q)).Pairwise (ltC Q) := by
  have htr : ∀ a b c : Cd, leC Q a b = true → leC Q b c = true → leC Q a c = true := by
    intro a b c h1 h2
    simp only [leC, Bool.not_eq_true'] at h1 h2 ⊢
    rw [ltC_not] at *
    unfold ltC at *
    omega
  have hto : ∀ a b : Cd, (leC Q a b || leC Q b a) = true := by
    intro a b
    cases h : leC Q a b
    · simp only [leC, Bool.not_eq_false'] at h
      rw [ltC_iff] at h
      simp only [Bool.false_or, leC, Bool.not_eq_true']
      rw [ltC_not]
      unfold ltC at *
      omega
    · rfl
  have hs := List.pairwise_mergeSort htr hto L
  have hnd : (L.mergeSort (leC Q)).Nodup := ((List.mergeSort_perm L (leC Q)).nodup_iff).2 hn
  refine (hs.and hnd).imp ?_
  intro a b hab
  obtain ⟨h1, h2⟩ := hab
  simp only [leC, Bool.not_eq_true'] at h1
  rw [ltC_not] at h1
  by_cases hl : ltC Q a b
  · exact hl
  · exfalso
    apply h2
    apply tw_inj
    unfold ltC at *
    omega
set_option maxHeartbeats 4000000 in
theorem cands_some (G : Int × Bool → List (Int × Int)) (V : Int × Bool → Value) (Gb base n : Nat) (k : Int) (w : World) (hS : SdP w base Gb n V G) (hn : n ≤ 400) (hG : ∀ q, G q ≠ [] → 0 ≤ q.1 ∧ q.1 < 100000) (hGl : ∀ q, (G q).length ≤ 400) :
    Calls Tryz.prog 44 #[.map (some Gb), .int .i64 k] w fun e w' => CaP G k w e w' := by
  obtain ⟨i0, hi, hz0, hz1, hz2⟩ := info_parts Tryz.info112x
  obtain ⟨D, hD, h1, h2, h3⟩ := hS.map
  have hDl : Maps.size D ≤ n := hD.size_le
  have hGb := hS.lt
  have HS : Hid (SdP w base Gb n V G) := hS
  have H1 := (show Hid _ from h1)
  have H2 := (show Hid _ from h2)
  have H3 := (show Hid _ from h3)
  have HD : Hid (w.ownsMap Tryz.prog 109 rawR Gb n D) := hD
  have HG : Hid (∀ q, G q ≠ [] → 0 ≤ q.1 ∧ q.1 < 100000) := hG
  have HGL : Hid (∀ q, (G q).length ≤ 400) := hGl
  clear hS h1 h2 h3 hG hGl
  go_enter Tryz.func44, Tryz.ntmps44
  go_wp2_with (first
    | (at_len; refine wpList_len_own _ rfl _ 106 rfl 109 110 Tryz.underlying106 rawR Gb n D rfl hD ?_)
    | (at_make; refine wpList_make_own _ rfl _ _ 104 rfl w.heap.size 112 i0 _ 4 Tryz.underlying104 hi hz0 hz1 .i64 .i64 _ (Maps.size D) rfl rfl rfl (by rw [hz2]; omega) (by unfold maxLen; omega) (Nat.le_refl _) ?_; intro w1 hown1 hgr1)
    | (at_range; refine wpList_range_own _ rfl _ 106 rfl 109 110 (Keyed.of_law lawS) Tryz.underlying106 rawR Gb n D rfl (hD.kept hgr1 (by simp)) ?_; intro w2 hrg2 hgr2 hs2))
  go_frame
  obtain ⟨r, hr⟩ : ∃ r, r = w1.heap.size := ⟨_, rfl⟩
  rw [← hr] at hrg2 ⊢
  have hb1 : Below w.heap.size w w1 := ⟨hgr1.os, hgr1.tape, hgr1.output, hgr1.size, fun g hg => hgr1.block g hg (by simp)⟩
  have hb12 : Below w1.heap.size w1 w2 := ⟨hgr2.os, hgr2.tape, hgr2.output, hgr2.size, fun g hg => hgr2.block g hg (by simp)⟩
  have okC : ∀ a : Cd, okS (sd a) := fun a => by unfold okS sd; exact WalkArith.wf_i64 (by have := a.1.isLt; omega)
  have hI0 : CdI w G k Gb r n D (Maps.has D) (Maps.size D) (Value.slice (some { block := w.heap.size, off := 0 }) 0 (Maps.size D)) (fun _ => nilS) [] w2 := by
    refine ⟨hrg2, (OwnR.of_ownsRow hown1 (Nat.le_refl _)).other (fun g _ hg => hb12.block g hg), by simp [Value.ownBlock], fun a ha => (by cases ha), List.nodup_nil, fun a => ?_, fun _ => rfl, hb1.trans (hb12.mono hb1.size), by simp, by rw [hr]; exact hb1.size⟩
    constructor
    · intro ha; cases ha
    · rintro ⟨hne, hl⟩
      rw [H2.out (sd a) (okC a)] at hl
      exact absurd (by simpa using hl) hne
  have HI0 := (show Hid _ from hI0)
  have HOK : Hid (∀ a : Cd, okS (sd a)) := okC
  clear hI0 hrg2 hgr2 hs2 hown1 hgr1 hb1 hb12 hr okC hD
  go_loopw [5] (fun lv wr => ∃ left cnt Vc L, CdI w G k Gb r n D left cnt lv Vc L wr) (fun _ wr => wr.rangeLeft Gb r)
  case atStart => exact ⟨_, _, _, _, HI0.out⟩
  case round =>
    obtain ⟨left, cnt, Vc, L, hI⟩ := hrel
    have HI : Hid (CdI w G k Gb r n D left cnt u5 Vc L wr) := hI
    have hrg := hI.rg
    clear hI
    go_wp2_with (at_next; refine wpList_next_ranges _ rfl _ rfl 109 (Keyed.of_law lawS) rawR vK id invK (fun v y hv => ⟨v, rfl⟩) Gb r n D left cnt rfl hrg ?_ ?_)
    · intro hc0 hl0
      obtain ⟨g, o, cp, hu5⟩ : ∃ g o cp, u5 = .slice (some ⟨g, o, none⟩) L.length cp := by
        rcases HI.out.ls.2 with ⟨h, _⟩ | ⟨g, o, cap, cur, h, _⟩
        · exact absurd (by rw [h]; rfl) HI.out.nn
        · exact ⟨g, o, cap, h⟩
      subst hu5
      have hLl : L.length ≤ 400 := by have := HI.out.cn; omega
      have HL0 : Hid (∀ kl, left kl = false) := hl0
      have cS := sortC_any Vc (fun q => ansQ (G q) k) HI.out.one (fun q => ansQ_bd _ _) L L.length rfl (by omega) w.heap.size g o cp wr HI.out.ls
      clear hl0 hc0
      go_wp2_with fail
      refine cS.mono ?_
      rintro e w4 ⟨rfl, hown4, hfr4, hs4, ho4⟩
      have HO4 := (show Hid _ from hown4)
      have HF4 := (show Hid _ from hfr4)
      have HS4 := (show Hid _ from ho4)
      clear hown4 hfr4 ho4 cS
      go_wp2
      go_ret
      have hgl := (HI.out.ls.lt (g := g) rfl).1
      refine ⟨_, Vc, L.mergeSort (leC fun q => ansQ (G q) k), rfl, ?_, ?_, ?_, ltC_sorted _ L HI.out.nd, ?_, ?_⟩
      · refine ⟨HS4.out.1.trans HI.out.bl.os, HS4.out.2.1.trans HI.out.bl.tape, HS4.out.2.2.trans HI.out.bl.output, Nat.le_trans HI.out.bl.size hs4, fun j hj => ?_⟩
        rw [HF4.out j (Nat.lt_of_lt_of_le hj HI.out.bl.size) (by omega)]
        exact HI.out.bl.block j hj
      · rw [List.length_mergeSort]; exact HO4.out
      · intro a ha
        rw [List.mem_mergeSort] at ha
        refine (HI.out.ch a ha).other (fun j hj hjl => HF4.out j hjl (fun e => ?_))
        obtain ⟨g', o', cap', cur', e', _, hg', _⟩ : ∃ g' o' cap' cur', Value.slice (some ⟨g, o, none⟩) L.length cp = .slice (some ⟨g', o', none⟩) L.length cap' ∧ True ∧ wr.heap[g']? = some (.cells cur' 112 (0, 0)) ∧ True := by
          rcases HI.out.ls.2 with ⟨h, _⟩ | ⟨g', o', cap', cur', h, _, hg', _⟩
          · simp at h
          · exact ⟨g', o', cap', cur', h, trivial, hg', trivial⟩
        simp only [Value.slice.injEq, Option.some.injEq, Addr.mk.injEq, and_true, true_and] at e'
        obtain ⟨⟨rfl, rfl⟩, rfl⟩ := e'
        exact (HI.out.ch a ha).tag (by decide) hg' (e ▸ hj)
      · intro a
        rw [List.mem_mergeSort, HI.out.mem a]
        exact ⟨fun h => h.1, fun h => ⟨h, HL0.out _⟩⟩
      · rw [List.length_mergeSort]; exact hLl
    · intro q v kl yd yp w3 cnt3 hkey hlk hv hat hrg3 hlt hg3 hs3 hen
      have hyd : yd = .held v := by
        simp only [rawR, id, Option.some.injEq, Prod.mk.injEq] at hv
        exact hv.1.symm
      have hhas : Maps.has D kl = true := Maps.has_true_of_atKey hat
      obtain ⟨s, hos, rfl⟩ := H3.out kl hhas
      have hqs : (q.n, q.b) = s := by
        have := (Keyed.of_law lawS).inj hkey (keyS s hos)
        simp only [vK, vS, Value.agg.injEq, Array.mk.injEq, List.cons.injEq, Value.int.injEq, Value.bool.injEq, true_and, and_true] at this
        exact Prod.ext this.1 this.2
      subst hqs
      have hvV : v = V (q.n, q.b) := by
        have h1 := hat (.held nilS)
        rw [H1.out _ hos, hyd] at h1
        simp only [DataW.held.injEq] at h1
        exact h1.symm
      have hGne : G (q.n, q.b) ≠ [] := by
        have := H2.out _ hos
        rw [hhas] at this
        intro h; rw [h] at this; cases this
      have hb := HG.out _ hGne
      simp only at hb
      obtain ⟨a, ha⟩ : ∃ a : Cd, sd a = (q.n, q.b) := ⟨(⟨q.n.toNat, by omega⟩, q.b), by unfold sd; simp; omega⟩
      obtain ⟨m, hm⟩ : ∃ m, m = (G (q.n, q.b)).length := ⟨_, rfl⟩
      have hVo := HS.out.own (q.n, q.b) hos
      obtain ⟨ao, cp, hvs⟩ : ∃ ao cp, V (q.n, q.b) = .slice ao m cp := by
        rcases hVo.2 with ⟨h, h0⟩ | ⟨g, o, cap, cur, h, _⟩
        · exact absurd (List.eq_nil_of_length_eq_zero h0) hGne
        · exact ⟨_, _, by rw [hm]; exact h⟩
      rw [hvs] at hvV
      subst hvV
      have hb3 : ∀ j, j < w.heap.size → w3.heap[j]? = w.heap[j]? := fun j hj => by
        rw [hg3.block j (Nat.lt_of_lt_of_le hj HI.out.bl.size) (fun e => by have := HI.out.lw; simp at e; omega)]
        exact HI.out.bl.block j hj
      obtain ⟨n3, hn3⟩ : ∃ n3, n3 = w3.heap.size := ⟨_, rfl⟩
      have hcg : ∀ W : World, (∀ j, j < w.heap.size → W.heap[j]? = w.heap[j]?) → w.heap.size ≤ W.heap.size → RdA W ao (G (q.n, q.b)) := by
        intro W hW hsz
        right
        rcases hVo.2 with ⟨h, h0⟩ | ⟨g, o, cap, cur, h, _, hg, _, _, _, hc⟩
        · exact absurd (List.eq_nil_of_length_eq_zero h0) hGne
        · rw [hvs] at h
          simp only [Value.slice.injEq] at h
          refine ⟨g, o, h.1, Nat.lt_of_lt_of_le (lt_of_block hg) hsz, fun j hj => ?_⟩
          have h2 := acells_at (G (q.n, q.b)) j hj
          rw [Nat.mul_comm 2 j] at h2
          have hgW := (hW g (lt_of_block hg)).trans hg
          exact ⟨cell_at hgW (hc _ _ h2.1), cell_at hgW (hc _ _ h2.2)⟩
      have HCG := (show Hid _ from hcg)
      have HB3 : Hid (∀ j, j < w.heap.size → w3.heap[j]? = w.heap[j]?) := hb3
      have HM : Hid ((G (q.n, q.b)).length = m) := hm.symm
      have HRG3 : Hid (w3.ranges Tryz.prog 109 rawR Gb r n D (fun z => left z && !z.sameKey (kS (q.n, q.b))) cnt3) := hrg3
      have HG3 : Hid (wr.grownBy w3 (some r)) := hg3
      have HS3 : Hid (w3.heap.size = wr.heap.size) := hs3
      have HLK : Hid (left (kS (q.n, q.b)) = true) := hlk
      have HEN : Hid _ := hen
      have hws : w.heap.size ≤ w3.heap.size := by have := HI.out.bl.size; omega
      have hen' : (Instr.entry (Value.pointer (some { block := r, off := 0 }))).run Tryz.prog w3 = .ok (.tuple #[.agg #[.int .i64 q.n, .bool q.b], .slice ao m cp]) w3 := hen
      have hvK : vK q = .agg #[.int .i64 q.n, .bool q.b] := rfl
      rw [hvK]
      clear hcg hb3 hm hrg3 hg3 hs3 hen hkey hlk hv hat hyd hhas hVo hvs HEN hn3
      go_wp2_with fail
      obtain ⟨w4, hw4⟩ : ∃ W : World, W = w3.alloc (Obj.cells #[Value.int IntKind.i64 q.n, Value.bool q.b] 109) := ⟨_, rfl⟩
      have hb4 : Below w3.heap.size w3 w4 := by rw [hw4]; exact (Below.refl _ _).alloc (Nat.le_refl _) _
      have hn4 : w4.heap[w3.heap.size]? = some (.cells #[Value.int IntKind.i64 q.n, Value.bool q.b] 109 (0, 0)) := by rw [hw4]; exact heap_alloc_new w3 _
      rw [← hw4]
      clear hw4 hen'
      refine (achain_all (G (q.n, q.b)) m HM.out ao cp k w4 (HCG.out w4 (fun j hj => (hb4.block j (Nat.lt_of_lt_of_le hj hws)).trans (HB3.out j hj)) (Nat.le_trans hws hb4.size))).mono ?_
      rintro e w5 ⟨v', rfl, hb5, hown5, _⟩
      obtain ⟨ao', cp', rfl⟩ := hown5.form
      have hm5 : w5.heap[w3.heap.size]? = some (.cells #[Value.int IntKind.i64 q.n, Value.bool q.b] 109 (0, 0)) := (hb5.block _ (lt_of_block hn4)).trans hn4
      have s0 := cell_at hm5 (i := 0) rfl
      have s1 := cell_at hm5 (i := 1) rfl
      have h35 : Below w3.heap.size w3 w5 := hb4.trans (hb5.mono hb4.size)
      have HF : Hid (ansF (G (q.n, q.b)) k = fq (ansQ (G (sd a)) k)) := by rw [ha]; exact ansF_q _ _
      obtain ⟨fv, hfv⟩ : ∃ fv, fv = ansF (G (q.n, q.b)) k := ⟨_, rfl⟩
      have HFV : Hid (fv = fq (ansQ (G (sd a)) k)) := hfv.trans HF.out
      rw [← hfv]
      obtain ⟨ml, hml⟩ : ∃ ml, ml = (ansM (G (q.n, q.b)) k).length := ⟨_, rfl⟩
      rw [← hml] at hown5 ⊢
      have HO5 : Hid (OwnR w5 w4.heap.size 140 2 (.slice ao' ml cp') ml (acells (ansM (G (q.n, q.b)) k))) := hown5
      have HML : Hid (ml = (ansM (G (q.n, q.b)) k).length) := hml
      have hu5w : OwnR w3 w.heap.size 112 4 u5 L.length (L.flatMap (encC Vc (fun q => ansQ (G q) k))) := HI.out.ls.other (fun g hg hgl => HG3.out.block g hgl (fun e => (ranges_blocks HI.out.rg HI.out.ls).2 (by rw [hg]; exact e)))
      have hLl : L.length + 1 ≤ 400 := by have := HI.out.cn; omega
      have HH35 : Hid (Below w3.heap.size w3 w5) := h35
      have H45 : Hid (w3.heap.size ≤ w4.heap.size) := hb4.size
      clear hfv hml hown5 hm5 hb4 hb5 hn4 h35 HF
      go_wp2_with (refine wpList_own _ rfl (.tmp 28) (.tmp 33) 104 rfl 112 i0 _ 4 48 Tryz.underlying104 hi hz0 hz1 hz2 rfl (by decide) w.heap.size u5 L.length (L.flatMap (encC Vc (fun q => ansQ (G q) k))) rfl (hu5w.other (fun g _ hg => (Below.heap_alloc w5 _ g (Nat.lt_of_lt_of_le hg HH35.out.size)).trans (HH35.out.block g hg))) ⟨w5.heap.size, 0, none⟩ 1 [.int .i64 q.n, .bool q.b, .slice ao' ml cp', .float .f64 fv] rfl rfl (cbox_cells w5 _ _ _ _ _ rfl) (by intro u hu; simp at hu; rcases hu with rfl | rfl | rfl | rfl <;> rfl) (by unfold maxLen; omega) (by omega) (by have := HH35.out.size; simp; omega) ?_; intro g' o' cap' w7 hown7 hfr7)
      have hk6 : ∀ j, j < w5.heap.size → u5.ownBlock ≠ some j → w7.heap[j]? = w5.heap[j]? := fun j hj hne => (hfr7.other j (by simp; omega) hne).trans (Below.heap_alloc w5 _ j hj)
      have h35s := HH35.out.size
      have hk7 : ∀ j, j < w3.heap.size → u5.ownBlock ≠ some j → w7.heap[j]? = w3.heap[j]? := fun j hj hne => (hk6 j (by omega) hne).trans (HH35.out.block j hj)
      have hs7 : w5.heap.size + 1 ≤ w7.heap.size := by have := hfr7.size; simp at this; exact this
      have hubl : ∀ g, u5.ownBlock = some g → w.heap.size ≤ g ∧ g < w3.heap.size := fun g hg => hu5w.lt hg
      have hrb := ranges_blocks HRG3.out hu5w
      have hrlt := HRG3.out.lt
      have hrg7 := ranges_at HRG3.out (hk7 Gb (by omega) hrb.1) (hk7 r hrlt hrb.2)
      have haL : a ∉ L := fun h => by
        have := ((HI.out.mem a).1 h).2
        rw [ha, HLK.out] at this
        cases this
      have hsd : ∀ b : Cd, sd b = sd a → b = a := fun b h => tw_inj b a (by rw [h])
      have heq : ∀ b : Cd, b ≠ a → eqS (sd b) (q.n, q.b) = false := fun b hb => by
        cases h : eqS (sd b) (q.n, q.b)
        · rfl
        · exact absurd (hsd b (((eqS_iff _ _).1 h).trans ha.symm)) hb
      have hVb : ∀ b : Cd, b ≠ a → updF eqS Vc (q.n, q.b) (.slice ao' ml cp') (sd b) = Vc (sd b) := fun b hb => by unfold updF; rw [heq b hb]; rfl
      have hVa : updF eqS Vc (q.n, q.b) (.slice ao' ml cp') (sd a) = .slice ao' ml cp' := by unfold updF; rw [ha, (eqS_iff _ _).2 rfl]; rfl
      refine ⟨⟨fun z => left z && !z.sameKey (kS (q.n, q.b)), cnt3, updF eqS Vc (q.n, q.b) (.slice ao' ml cp'), L ++ [a], hrg7, ?_, by simp [Value.ownBlock], ?_, ?_, ?_, ?_, ?_, ?_, HI.out.lw⟩, ?_⟩
      · rw [List.flatMap_append, encC_congr Vc _ _ L (fun b hb => hVb b (fun e => haL (e ▸ hb))), List.length_append]
        have e1 : ([a] : List Cd).flatMap (encC (updF eqS Vc (q.n, q.b) (.slice ao' ml cp')) fun q => ansQ (G q) k) = [.int .i64 q.n, .bool q.b, .slice ao' ml cp', .float .f64 fv] := by
          have e2 : ((a.1.val : Int), a.2) = (q.n, q.b) := ha
          simp only [Prod.mk.injEq] at e2
          simp only [List.flatMap_cons, List.flatMap_nil, List.append_nil, encC, hVa, HFV.out, e2.1, e2.2]
        rw [e1]
        exact hown7
      · intro b hb
        rcases List.mem_append.1 hb with hb | hb
        · have hne : b ≠ a := fun e => haL (e ▸ hb)
          rw [hVb b hne]
          have h1 := HI.out.ch b hb
          have h3 : OwnR w3 w.heap.size 140 2 (Vc (sd b)) (ansM (G (sd b)) k).length (acells (ansM (G (sd b)) k)) := h1.other (fun g hg hgl => HG3.out.block g hgl (fun e => (ranges_blocks HI.out.rg h1).2 (by rw [hg]; exact e)))
          exact h3.other (fun g hg hgl => hk7 g hgl (h3.apart hu5w (by decide) hg))
        · simp at hb
          subst hb
          rw [hVa, ha, ← HML.out]
          refine (HO5.out.other (fun g hg hgl => hk6 g hgl (fun e => ?_))).low (by have := H45.out; omega)
          have h1 := (HO5.out.lt hg).1
          have h2 := (hubl g e).2
          have := H45.out
          omega
      · rw [List.nodup_append]
        refine ⟨HI.out.nd, by simp, fun x hx y hy => ?_⟩
        simp at hy
        subst hy
        exact fun e => haL (e ▸ hx)
      · intro b
        by_cases hb : b = a
        · subst hb
          constructor
          · intro _
            refine ⟨by rw [ha]; exact hGne, ?_⟩
            rw [ha, WideAt.sameKey_self ((Keyed.of_law lawS).key (keyS _ hos))]
            simp
          · intro _; simp
        · have h1 : (kS (sd b)).sameKey (kS (q.n, q.b)) = false := Maps.sameKey_ne (fun e => hb (hsd b ((kS_inj _ _ (HOK.out b) hos e).trans ha.symm)))
          rw [h1]
          simp only [Bool.not_false, Bool.and_true, List.mem_append, List.mem_singleton, hb, or_false]
          exact HI.out.mem b
      · intro s
        unfold updF
        split
        · rfl
        · exact HI.out.one s
      · refine ⟨?_, ?_, ?_, by omega, fun g hg => ?_⟩
        · exact hfr7.os.trans (HH35.out.os.trans (HG3.out.os.trans HI.out.bl.os))
        · exact hfr7.tape.trans (HH35.out.tape.trans (HG3.out.tape.trans HI.out.bl.tape))
        · exact hfr7.output.trans (HH35.out.output.trans (HG3.out.output.trans HI.out.bl.output))
        · rw [hk7 g (by omega) (fun e => by have := (hubl g e).1; omega)]
          exact HB3.out g hg
      · have := HI.out.cn
        simp only [List.length_append, List.length_singleton]
        omega
      · rw [hrg7.left_eq, HI.out.rg.left_eq]
        exact hlt
end Go.Proofs.YtilcmkiihefkkabGreatDoor.Mn
end
section
set_option linter.unusedVariables false
set_option linter.unusedSimpArgs false
set_option maxRecDepth 100000
namespace Go.Proofs.YtilcmkiihefkkabGreatDoor.Mn
open Go.RowKit Go.Shelf Go.Lib Go.Sort Go.Maps
set_option maxHeartbeats 4000000 in
theorem cands_nil (k : Int) (w : World) :
    Calls Tryz.prog 44 #[.map none, .int .i64 k] w fun e w' => ∃ ao cp, e = .returned (.slice ao 0 cp) ∧ Below w.heap.size w w' := by
  obtain ⟨i0, hi, hz0, hz1, hz2⟩ := info_parts Tryz.info112x
  have hln : ∀ (W : World) (ty : TypeId), (Builtin.len_ #[106] ty #[.map none]).run Tryz.prog W = .ok (.int .i64 0) W := fun W ty => Maps.len_nil Tryz.underlying106 ty
  have hrn : ∀ W : World, (Instr.range 106 (.map none)).run Tryz.prog W = .ok (.pointer (some ⟨W.heap.size, 0, none⟩)) (W.alloc (.mapIter none 0 #[] 0)) := fun W => run_range_nilMap W 106 109 110 Tryz.underlying106
  have hnx : ∀ (W : World) (ty : TypeId), (Instr.next (.pointer (some ⟨W.heap.size, 0, none⟩)) false ty).run Tryz.prog (W.alloc (.mapIter none 0 #[] 0)) = .ok (.tuple #[.bool false]) (W.alloc (.mapIter none 0 #[] 0)) := fun W ty => run_next_nilMap W ty 0 0 #[]
  go_enter Tryz.func44, Tryz.ntmps44
  go_wp2_with (at_make; refine wpList_make_own _ rfl _ _ 104 rfl w.heap.size 112 i0 _ 4 Tryz.underlying104 hi hz0 hz1 .i64 .i64 _ 0 rfl rfl rfl (by omega) (by unfold maxLen; omega) (Nat.le_refl _) ?_; intro w1 hown1 hgr1)
  have HO1 : Hid (OwnR w1 w.heap.size 112 4 (.slice (some ⟨w.heap.size, 0, none⟩) 0 0) 0 []) := OwnR.of_ownsRow hown1 (Nat.le_refl _)
  have HB1 : Hid (Below w.heap.size w w1) := ⟨hgr1.os, hgr1.tape, hgr1.output, hgr1.size, fun g hg => hgr1.block g hg (by simp)⟩
  clear hown1 hgr1
  go_loopw [5] (fun lv wr => lv = .slice (some ⟨w.heap.size, 0, none⟩) 0 0 ∧ wr = w1.alloc (.mapIter none 0 #[] 0)) (fun _ _ => 0)
  case atStart => exact ⟨rfl, rfl⟩
  case round =>
    obtain ⟨rfl, rfl⟩ := hrel
    have hw : Below w1.heap.size w1 (w1.alloc (.mapIter none 0 #[] 0)) := (Below.refl _ _).alloc (Nat.le_refl _) _
    have cS := sortC_any (fun _ => nilS) (fun _ => 0) (fun _ => rfl) (fun _ => by omega) [] 0 rfl (by omega) w.heap.size w.heap.size 0 0 (w1.alloc (.mapIter none 0 #[] 0)) (HO1.out.other (fun g _ hg => hw.block g hg))
    go_wp2_with fail
    refine cS.mono ?_
    rintro e w4 ⟨rfl, _, hfr4, hs4, ho4⟩
    have HF4 := (show Hid _ from hfr4)
    have HS4 := (show Hid _ from ho4)
    have HW : Hid _ := hw
    clear hfr4 ho4 cS hw
    go_wp2
    go_ret
    refine ⟨_, _, rfl, ?_⟩
    have hb := HB1.out.trans (HW.out.mono HB1.out.size)
    refine ⟨HS4.out.1.trans hb.os, HS4.out.2.1.trans hb.tape, HS4.out.2.2.trans hb.output, Nat.le_trans hb.size hs4, fun j hj => ?_⟩
    rw [HF4.out j (Nat.lt_of_lt_of_le hj hb.size) (by omega)]
    exact hb.block j hj
end Go.Proofs.YtilcmkiihefkkabGreatDoor.Mn
end
section
set_option linter.unusedVariables false
set_option linter.unusedSimpArgs false
set_option maxRecDepth 100000
namespace Go.Proofs.YtilcmkiihefkkabGreatDoor.Mn
open Go.RowKit
def c0 (L : List (Int × Int)) : Int × Int := L.getD 0 (0, 0)
def c1 (L : List (Int × Int)) : Int × Int := L.getD (L.length - 1) (0, 0)
theorem ris_le (C : List (Int × Int)) (h : risN C C.length) : ∀ i, i < C.length → (C.getD 0 A0).1 ≤ (C.getD i A0).1 ∧ (C.getD 0 A0).2 ≤ (C.getD i A0).2
  | 0, _ => ⟨Int.le_refl _, Int.le_refl _⟩
  | i + 1, hi => by
    have ih := ris_le C h i (by omega)
    have h1 := h i hi
    unfold fol at h1
    omega
/-- what holds of the chain of a side -/
structure CdF (k : Nat) (R : List S2) (rb : ByteArray) (q : Int × Bool) (G : List (Int × Int)) (r0 p0 r1 p1 : Nat) : Prop where
  q0 : 0 ≤ q.1
  qi : q.1.toNat < R.length
  err : errC G k = 0
  len : 0 < (chL k G).length
  e0 : c0 (chL k G) = ((r0 : Int), (p0 : Int))
  e1 : c1 (chL k G) = ((r1 : Int), (p1 : Int))
  le0 : r0 ≤ r1
  le1 : p0 ≤ p1
  b0 : r1 + k ≤ rb.size
  b1 : p1 + k ≤ (R.getD q.1.toNat S0).b.size
  s0 : seg (nums (if q.2 = true then turnL rb.data.toList else rb.data.toList)) r0 k = seg (nums (R.getD q.1.toNat S0).b.data.toList) p0 k
  s1 : seg (nums (if q.2 = true then turnL rb.data.toList else rb.data.toList)) r1 k = seg (nums (R.getD q.1.toNat S0).b.data.toList) p1 k
  n0 : ∀ m ∈ seg (nums (R.getD q.1.toNat S0).b.data.toList) p0 k, m < 4
  n1 : ∀ m ∈ seg (nums (R.getD q.1.toNat S0).b.data.toList) p1 k, m < 4
  lo : 4 * (k : Int) ≤ chQ k G
  hi : chQ k G ≤ 100000
theorem cand_facts (k W : Nat) (R : List S2) (rb : ByteArray) (q : Int × Bool) (hk1 : 1 ≤ k) (hk2 : k ≤ 12) (hW : 1 ≤ W) (hR : ∀ x ∈ R, good x.b ∧ x.b.size ≤ 4000) (hg : good rb) (hrb : rb.size ≤ 300)
    (hne : (gat k W R rb).2 q ≠ []) (hlen : ((gat k W R rb).2 q).length ≤ 400) : ∃ r0 p0 r1 p1 : Nat, CdF k R rb q ((gat k W R rb).2 q) r0 p0 r1 p1 := by
  have hA : ∀ a ∈ (gat k W R rb).2 q, AnOf k W R rb q a := fun a ha => gat_mem k W R rb q a ha
  generalize (gat k W R rb).2 q = G at *
  have hRg : ∀ x ∈ R, good x.b := fun x hx => (hR x hx).1
  have hB := fun a ha => (hA a ha).bounds hk1 hk2 hW hRg hg
  have hS := fun a ha => (hA a ha).same hk1 hk2 hW hRg hg
  obtain ⟨hr, hw, h0, hm⟩ := chain_good k G hne
  have hm0 : c0 (chL k G) ∈ chL k G := by unfold c0; rw [getD_get _ _ _ h0]; exact List.getElem_mem _
  have hm1 : c1 (chL k G) ∈ chL k G := by unfold c1; rw [getD_get _ _ _ (by omega)]; exact List.getElem_mem _
  have b0 := hB _ (hm _ hm0)
  have b1 := hB _ (hm _ hm1)
  have s0 := hS _ (hm _ hm0)
  have s1 := hS _ (hm _ hm1)
  have hq : q.1.toNat < R.length := by omega
  have hsz := (hR _ (getD_mem R _ hq)).2
  have hle := ris_le _ hr ((chL k G).length - 1) (by omega)
  have hle1 : (c0 (chL k G)).1 ≤ (c1 (chL k G)).1 ∧ (c0 (chL k G)).2 ≤ (c1 (chL k G)).2 := hle
  have he : errC G k = 0 := by
    unfold errC
    have hl : G.length ≠ 0 := fun h => hne (List.eq_nil_of_length_eq_zero h)
    have ho : G.any outB = false := by
      rw [Bool.eq_false_iff]
      intro h
      rw [any_outB] at h
      apply h
      intro x hx
      have hx1 := hB x hx
      unfold okA
      omega
    rw [if_neg (by omega), if_neg (by omega), if_neg hl, ho]
    rfl
  have hcn := canon_ne G hne
  have hq1 := (tb_bounds (k : Int) (by omega) (canon G) (canon G).length (chM k G) (mxi_lt _ _ hcn)).1
  have hq2 := (chQ_bound G k he).2.1
  refine ⟨(c0 (chL k G)).1.toNat, (c0 (chL k G)).2.toNat, (c1 (chL k G)).1.toNat, (c1 (chL k G)).2.toNat, ?_⟩
  exact {
    q0 := b0.1, qi := hq, err := he, len := h0
    e0 := Prod.ext (by show _ = (((c0 (chL k G)).1.toNat : Nat) : Int); omega) (by show _ = (((c0 (chL k G)).2.toNat : Nat) : Int); omega)
    e1 := Prod.ext (by show _ = (((c1 (chL k G)).1.toNat : Nat) : Int); omega) (by show _ = (((c1 (chL k G)).2.toNat : Nat) : Int); omega)
    le0 := by omega, le1 := by omega, b0 := by omega, b1 := by omega
    s0 := s0.1, s1 := s1.1, n0 := s0.2, n1 := s1.2, lo := hq1, hi := hq2 }
end Go.Proofs.YtilcmkiihefkkabGreatDoor.Mn
end
section
set_option linter.unusedVariables false
set_option linter.unusedSimpArgs false
set_option maxRecDepth 100000
namespace Go.Proofs.YtilcmkiihefkkabGreatDoor.Mn
open Go.RowKit Go.Shelf Go.Lib Go.Sort Go.Maps
/-- an entry: its hash; the hits go by it -/
abbrev Ek := Fin 16777216
def hk (a : Ek) : Int := (a.val : Int)
def encE (V : Int → Value) (a : Ek) : List Value := [.int .i64 (hk a), V (hk a)]
def cfE (a b : Ek) : Int := cmpI (hk a) (hk b)
theorem hk_inj (a b : Ek) (h : hk a = hk b) : a = b := by
  unfold hk at h
  exact Fin.ext (by omega)
theorem hk_ok (a : Ek) : okI (hk a) := okI_of (by unfold hk; omega) (by have := a.isLt; unfold hk; omega)
theorem ltE_iff (a b : Ek) : ltOf cfE a b = true ↔ hk a < hk b := by
  unfold ltOf cfE
  rw [decide_eq_true_eq]
  rcases cmpI_cases (hk a) (hk b) with ⟨h, e⟩ | ⟨h, e⟩ | ⟨h, e⟩ <;> rw [e] <;> simp <;> omega
theorem ltE_not (a b : Ek) : ltOf cfE a b = false ↔ ¬ hk a < hk b := by
  rw [← ltE_iff]; simp
theorem swoE : SWO (ltOf cfE) := {
  irrefl := fun x => by rw [ltE_not]; omega
  trans := fun x y z h1 h2 => by rw [ltE_iff] at *; omega
  ntrans := fun x y z h1 h2 => by rw [ltE_not] at *; omega }
def leE (x y : Ek) : Bool := !ltOf cfE y x
theorem ltE_sorted (L : List Ek) (hn : L.Nodup) : (L.mergeSort leE).Pairwise (fun a b => hk a < hk b) := by
  have htr : ∀ a b c : Ek, leE a b = true → leE b c = true → leE a c = true := by
    intro a b c h1 h2
    simp only [leE, Bool.not_eq_true'] at h1 h2 ⊢
    rw [ltE_not] at *
    omega
  have hto : ∀ a b : Ek, (leE a b || leE b a) = true := by
    intro a b
    cases h : leE a b
    · simp only [leE, Bool.not_eq_false'] at h
      rw [ltE_iff] at h
      simp only [Bool.false_or, leE, Bool.not_eq_true']
      rw [ltE_not]
      omega
    · rfl
  have hs := List.pairwise_mergeSort htr hto L
  have hnd : (L.mergeSort leE).Nodup := ((List.mergeSort_perm L leE).nodup_iff).2 hn
  refine (hs.and hnd).imp ?_
  intro a b hab
  obtain ⟨h1, h2⟩ := hab
  simp only [leE, Bool.not_eq_true'] at h1
  rw [ltE_not] at h1
  by_cases hl : hk a < hk b
  · exact hl
  · exact absurd (hk_inj a b (by omega)) h2
set_option maxHeartbeats 1000000 in
theorem ecomp_any (a b : Int) (va vb : Value) (w : World) (h1 : va.oneCell' = true) (h2 : vb.oneCell' = true) :
    Calls Tryz.prog 38 #[.agg #[.int .i64 a, va], .agg #[.int .i64 b, vb]] w fun e w' => e = .returned (.int .i64 (cmpI a b)) ∧ ∃ q os, w' = Sort.grow (w.drewN q) os := by
  have cC := fun W' => AnyG.cmp_Compare_int Tryz.cmpInt a b W'
  change ∀ W', Calls Tryz.prog 55 _ _ _ at cC
  rw [compareI_eq] at cC
  generalize cmpI a b = z at *
  obtain ⟨wA, hwA⟩ : ∃ W1 : World, W1 = (w.alloc (Obj.cells #[Value.int IntKind.i64 a, va] 67)).alloc (Obj.cells #[Value.int IntKind.i64 b, vb] 67) := ⟨_, rfl⟩
  have HG : Hid (∃ os, wA = Sort.grow (w.drewN 0) os) := by
    refine ⟨#[.cells #[.int .i64 a, va] 67] ++ #[.cells #[.int .i64 b, vb] 67], ?_⟩
    rw [hwA, Sort.alloc_eq_grow, Sort.alloc_eq_grow, Sort.grow_grow]; rfl
  have hA0 : wA.heap[w.heap.size]? = some (.cells #[Value.int IntKind.i64 a, va] 67 (0, 0)) := by rw [hwA, Below.heap_alloc _ _ _ (by simp)]; exact heap_alloc_new w _
  have hA1 : wA.heap[w.heap.size + 1]? = some (.cells #[Value.int IntKind.i64 b, vb] 67 (0, 0)) := by
    have := heap_alloc_new (w.alloc (Obj.cells #[Value.int IntKind.i64 a, va] 67)) (Obj.cells #[Value.int IntKind.i64 b, vb] 67)
    have e1 : (w.alloc (Obj.cells #[Value.int IntKind.i64 a, va] 67)).heap.size = w.heap.size + 1 := by simp
    rw [e1] at this
    rw [hwA]; exact this
  have f0 : wA.cell? ⟨w.heap.size, 0, none⟩ = some (.int .i64 a) := cell_at hA0 rfl
  have f1 : wA.cell? ⟨w.heap.size + 1, 0, none⟩ = some (.int .i64 b) := cell_at hA1 rfl
  clear hA0 hA1
  go_enter Tryz.func38, Tryz.ntmps38
  go_wp2_with fail
  rw [← hwA]
  clear hwA
  refine (cC _).mono ?_
  rintro e w1 ⟨rfl, rfl⟩
  go_wp2
  go_ret
  exact ⟨rfl, 0, HG.out⟩
theorem sortE_any (V : Int → Value) (hV : ∀ a : Ek, (V (hk a)).oneCell' = true) (L : List Ek) (n : Nat) (hn : L.length = n) (h2 : n ≤ 100000) (base g o cap : Nat) (w : World) (hown : OwnR w base 67 2 (.slice (some ⟨g, o, none⟩) n cap) n (L.flatMap (encE V))) :
    Calls Tryz.prog 37 #[.slice (some ⟨g, o, none⟩) n cap, .func (.func 38) #[] #[]] w fun e w' => e = .returned (.tuple #[]) ∧ OwnR w' base 67 2 (.slice (some ⟨g, o, none⟩) n cap) n ((L.mergeSort leE).flatMap (encE V)) ∧ (∀ j, j < w.heap.size → j ≠ g → w'.heap[j]? = w.heap[j]?) ∧ w.heap.size ≤ w'.heap.size ∧ w'.os = w.os ∧ w'.tape = w.tape ∧ w'.output = w.output := by
  have eg : ∀ args w, (callFunc 38 args).run Tryz.prog w = .ok (.enter 38 args) w := enter_of Tryz.func38 (by kernel_rfl) rfl
  have hk : ∀ x, (encE V x).length = 2 := fun _ => rfl
  have hH := hown.holdsK hk (by omega) hn
  have hc : CmpLays Tryz.prog 38 #[] (encE V) 2 cfE g o L.toArray.size w := fun _ _ _ _ x y =>
    (ecomp_any (Mn.hk x) (Mn.hk y) (V (Mn.hk x)) (V (Mn.hk y)) _ (hV _) (hV _)).mono (fun e w' h => ⟨h.1, h.2⟩)
  have hcon := AnyQ.slices_SortFunc_total Tryz.sortE 2 Tryz.isAgg67 Tryz.sizeOf67 (encE V) hk (fun x v hv => by simp [encE] at hv; rcases hv with rfl | rfl <;> first | rfl | exact hV _) cfE swoE 38 #[] g o cap L.toArray w eg hc hH.1 hH.2 (by simp; omega) (fun x y h1 h2 => by
    rw [ltE_not] at h1 h2
    exact hk_inj x y (by omega))
  change Calls Tryz.prog 37 _ _ _ at hcon
  have hsz : L.toArray.size = n := by simpa using hn
  rw [hsz] at hcon
  refine hcon.mono ?_
  rintro e w' ⟨rfl, m, os, rfl⟩
  exact ⟨rfl, hown.sortedK hk (by omega) hn (by rw [List.length_mergeSort]; exact hn)⟩
theorem nil_one {v : Value} {n : Nat} {w : World} {base e size : Nat} {xs : List Value} (h : OwnR w base e size v n xs) : v.oneCell' = true := by
  obtain ⟨ao, cp, rfl⟩ := h.form
  rfl
theorem len_sub {α : Type} : ∀ (l m : List α), l.Nodup → (∀ x ∈ l, x ∈ m) → l.length ≤ m.length
  | [], _, _, _ => Nat.zero_le _
  | a :: t, m, hn, hs => by
    rw [List.nodup_cons] at hn
    obtain ⟨m1, m2, rfl⟩ := List.append_of_mem (hs a (List.mem_cons_self))
    have := len_sub t (m1 ++ m2) hn.2 (fun x hx => by
      have h := hs x (List.mem_cons_of_mem _ hx)
      simp only [List.mem_append, List.mem_cons] at h ⊢
      rcases h with h | h | h
      · exact Or.inl h
      · subst h; exact absurd hx hn.1
      · exact Or.inr h)
    simp only [List.length_append, List.length_cons] at this ⊢
    omega
/-- a map has no more keys than are known -/
theorem map_size {P : Program} {w : World} {k : TypeId} {b n : Nat} {D : DataW Value} (K : Keyed P k) (h : w.ownsMap P k rawR b n D) (m : List Lit) (hm : ∀ l, Maps.has D l = true → l ∈ m) : Maps.size D ≤ m.length := by
  obtain ⟨es2, e2, hp⟩ := h.tidy K
  obtain ⟨es, clock, _, F, _, e⟩ := h
  have hk : ∀ p ∈ es2, WideAt.IsKeyLit p.1 := by
    intro p hpm
    rw [e2] at e
    simp only [DataW.map.injEq] at e
    rw [e] at hpm
    have := (WideShapes.sorted_perm _).mem_iff.1 hpm
    obtain ⟨key, hkey⟩ := Maps.fit_keys F p this
    exact K.key hkey
  subst e2
  rw [Maps.size_eq, ← List.length_map (f := fun p : Lit × DataW Value => p.1)]
  refine len_sub _ _ (by unfold List.Nodup; rw [List.pairwise_map]; exact hp) (fun l hl => ?_)
  obtain ⟨p, hpm, rfl⟩ := List.mem_map.1 hl
  refine hm _ ?_
  rw [Maps.has_eq, List.any_eq_true]
  exact ⟨p, hpm, WideAt.sameKey_self (hk p hpm)⟩
end Go.Proofs.YtilcmkiihefkkabGreatDoor.Mn
end
section
set_option linter.unusedVariables false
set_option linter.unusedSimpArgs false
set_option maxRecDepth 100000
namespace Go.Proofs.YtilcmkiihefkkabGreatDoor.Mn
open Go.RowKit
/-- a list of hits that may be read -/
def RdH (w : World) (ao : Option Addr) (T : List W3) : Prop := T.length ≠ 0 → ∃ g o cur, ao = some ⟨g, o, none⟩ ∧ w.heap[g]? = some (.cells cur 78 (0, 0)) ∧ ∀ j u, (wcells T)[j]? = some u → cur[o + j]? = some u
theorem RdH.of {w : World} {base cp : Nat} {ao : Option Addr} {T : List W3} (h : OwnR w base 78 3 (.slice ao T.length cp) T.length (wcells T)) : RdH w ao T := fun h0 => by
  rcases h.2 with ⟨_, h'⟩ | ⟨g, o, cap, cur, e, _, hg, _, _, _, hc⟩
  · exact absurd h' h0
  · simp only [Value.slice.injEq] at e
    exact ⟨g, o, cur, e.1, hg, hc⟩
theorem RdH.kept {w w' : World} {ao : Option Addr} {T : List W3} (h : RdH w ao T) (hk : WrK w w') : RdH w' ao T := fun h0 => by
  obtain ⟨g, o, cur, e, hg, hc⟩ := h h0
  exact ⟨g, o, cur, e, (hk g (fun cs h' => by rw [hg] at h'; simp at h') (fun cs h' => by rw [hg] at h'; simp at h') (lt_of_block hg)).trans hg, hc⟩
theorem hit_cells (L : List W3) (g o : Nat) (cur : Array Value) (w : World) (hg : w.heap[g]? = some (.cells cur 78 (0, 0))) (hc : ∀ j u, (wcells L)[j]? = some u → cur[o + j]? = some u) (j : Nat) (hj : j < L.length) :
    w.cell? ⟨g, o + j * 3, none⟩ = some (.int .i64 L[j].h) ∧ w.cell? ⟨g, o + j * 3 + 1, none⟩ = some (.int .i64 L[j].p) ∧ w.cell? ⟨g, o + j * 3 + 2, none⟩ = some (.bool L[j].b) := by
  have := wcells_at L j hj
  rw [Nat.mul_comm 3 j] at this
  exact ⟨cell_at hg (hc _ _ this.1), cell_at hg (hc _ _ this.2.1), cell_at hg (hc _ _ this.2.2)⟩
theorem hitB_len (x : W3) : (hitB x).length = 4 := by unfold hitB; rw [List.length_append, wrB_len, wrB_len]
theorem hitsF_len : ∀ T : List W3, (T.flatMap hitB).length = 4 * T.length
  | [] => rfl
  | x :: t => by rw [List.flatMap_cons, List.length_append, hitB_len, hitsF_len t, List.length_cons]; omega
set_option maxHeartbeats 4000000 in
theorem whits_any (T : List W3) (n : Nat) (hn : T.length = n) (ao : Option Addr) (cp : Nat) (L : List UInt8) (base B : Nat) (w : World) (h : WrP w base B L) (hT : ∀ y ∈ T, 0 ≤ y.h ∧ y.h < 100000 ∧ 0 ≤ y.p ∧ y.p < 100000) (hR : RdH w ao T) (hn2 : n ≤ 100000) (hl : L.length + 2 + 4 * n ≤ 1000000000) :
    Calls Tryz.prog 24 #[.pointer (some ⟨B, 0, none⟩), .slice ao n cp] w fun e w' => e = .returned (.tuple #[]) ∧ Wrote base B (L ++ hitsB T) w w' := by
  have c1 := wnumber_any n 2 L base B w h (by omega) (by omega) (by omega)
  have HN : Hid (T.length = n) := hn
  have HT := (show Hid _ from hT)
  have HR : Hid (RdH w ao T) := hR
  clear h hn hT hR
  go_enter Tryz.func24, Tryz.ntmps24
  go_wp2_with fail
  refine c1.mono ?_
  rintro e w1 ⟨rfl, hW1⟩
  have HW1 : Hid _ := hW1
  clear hW1 c1
  go_wp2
  go_loopw [12] (fun i wr => ∃ j : Nat, j ≤ n ∧ i = .int .i64 j ∧ Wrote base B (L ++ wrB n 2 ++ (T.take j).flatMap hitB) w wr) (fun i _ => n - (RowKit.intOf i).toNat)
  case atStart => exact ⟨0, Nat.zero_le _, rfl, by simpa using HW1.out⟩
  case round =>
    obtain ⟨j, hj, rfl, hW⟩ := hrel
    have HW : Hid _ := hW
    clear hW
    by_cases hlt : j < n
    · have hjT : j < T.length := by have := HN.out; omega
      obtain ⟨g, o, cur, rfl, hg, hc⟩ := (HR.out.kept HW.out.kp) (by omega)
      obtain ⟨d0, d1, d2⟩ := hit_cells T g o cur wr hg hc j hjT
      obtain ⟨x, hx⟩ : ∃ x, x = T[j] := ⟨_, rfl⟩
      rw [← hx] at d0 d1 d2
      have hxb := HT.out x (by rw [hx]; exact List.getElem_mem _)
      have HTK : Hid ((T.take (j + 1)).flatMap hitB = (T.take j).flatMap hitB ++ hitB x) := by
        show _ = _
        rw [List.take_add_one, List.getElem?_eq_getElem hjT, List.flatMap_append, hx]
        simp
      obtain ⟨M, hM⟩ : ∃ M, M = L ++ wrB n 2 ++ (T.take j).flatMap hitB := ⟨_, rfl⟩
      have hMl : M.length ≤ L.length + 2 + 4 * j := by
        rw [hM, List.length_append, List.length_append, wrB_len, hitsF_len, List.length_take]; omega
      have HM : Hid (M = L ++ wrB n 2 ++ (T.take j).flatMap hitB) := hM
      have HWM : Hid (Wrote base B M w wr) := by rw [hM]; exact HW.out
      obtain ⟨wA, hwA⟩ : ∃ W1 : World, W1 = wr.alloc (Obj.cells #[.int .i64 x.h, .int .i64 x.p, .bool x.b] 78) := ⟨_, rfl⟩
      have hbA : Below wr.heap.size wr wA := by rw [hwA]; exact (Below.refl _ _).alloc (Nat.le_refl _) _
      have hnA : wA.heap[wr.heap.size]? = some (.cells #[.int .i64 x.h, .int .i64 x.p, .bool x.b] 78 (0, 0)) := by rw [hwA]; exact heap_alloc_new wr _
      have hA := HWM.out.more hbA
      have hk0 : ∀ {w' : World}, WrK wA w' → w'.heap[wr.heap.size]? = some (.cells #[.int .i64 x.h, .int .i64 x.p, .bool x.b] 78 (0, 0)) := fun h' => (h' _ (fun cs hc => by rw [hnA] at hc; simp at hc) (fun cs hc => by rw [hnA] at hc; simp at hc) (lt_of_block hnA)).trans hnA
      obtain ⟨xs, hxs⟩ : ∃ xs : Nat, x.h = xs := ⟨x.h.toNat, by omega⟩
      obtain ⟨xp, hxp⟩ : ∃ xp : Nat, tw (x.p, x.b) = xp := ⟨(tw (x.p, x.b)).toNat, by unfold tw; simp only; split <;> omega⟩
      have hxp2 : xp ≤ 1000000 := by unfold tw at hxp; simp only at hxp; split at hxp <;> omega
      have HXB : Hid (hitB x = wrB xs 2 ++ wrB xp 2) := by
        show _ = _
        unfold hitB
        have e1 : x.h.toNat = xs := by omega
        have e2 : (2 * x.p.toNat + if x.b = true then 1 else 0) = xp := by
          unfold tw at hxp
          simp only at hxp
          cases hb : x.b <;> rw [hb] at hxp <;> simp at hxp ⊢ <;> omega
        rw [e1, e2]
      have c1 := wnumber_any xs 2 M base B wA hA.wp (by omega) (by omega) (by omega)
      have cT := fun W => twice_any x.p x.b W hxb.2.2.1 hxb.2.2.2
      rw [hxp] at cT
      have q0 : wA.cell? ⟨wr.heap.size, 0, none⟩ = some (.int .i64 xs) := by rw [← hxs]; exact cell_at hnA rfl
      have HK := (show Hid _ from @hk0)
      have HA : Hid _ := hA
      clear hk0 hbA hnA hA hx hM hxp hg hc
      go_wp2_with fail
      rw [← hxs, ← hwA, hxs]
      clear hwA d0 d1 d2 hxs
      refine c1.mono ?_
      rintro e w2 ⟨rfl, hW2⟩
      have q1 : w2.cell? ⟨wr.heap.size, 1, none⟩ = some (.int .i64 x.p) := cell_at (HK.out hW2.kp) rfl
      have q2 : w2.cell? ⟨wr.heap.size, 2, none⟩ = some (.bool x.b) := cell_at (HK.out hW2.kp) rfl
      have c2 := wnumber_any xp 2 (M ++ wrB xs 2) base B w2 hW2.wp (by omega) (by omega) (by rw [List.length_append, wrB_len]; omega)
      have HW2 : Hid _ := hW2
      clear hW2 c1
      go_wp2_with (go_at_call 39; refine (cT _).mono ?_; rintro e w' ⟨rfl, rfl⟩)
      refine c2.mono ?_
      rintro e w3 ⟨rfl, hW3⟩
      have HW3 : Hid _ := HA.out.trans (HW2.out.trans hW3)
      clear hW3 c2
      go_wp2
      go_roundw
      case rel =>
        refine ⟨j + 1, by omega, by go_num, ?_⟩
        rw [HTK.out, HXB.out, ← List.append_assoc, ← HM.out, ← List.append_assoc]
        exact HW3.out
      case measure => simp [RowKit.intOf]; omega
    · have hjn : j = n := by omega
      go_wp2
      go_end0
      refine ⟨rfl, ?_⟩
      have := HW.out
      rw [hjn, show T.take n = T by rw [← HN.out, List.take_length]] at this
      unfold hitsB
      rw [← List.append_assoc, HN.out]
      exact this
end Go.Proofs.YtilcmkiihefkkabGreatDoor.Mn
end
