import Derived.Laws.IdiomRangeMap
import Derived.Test.YtilcmkiihefkkaaGreatDoorJt26
import Derived.Test.YtilcmkiihefkkaaGreatDoorJt39
import Derived.Test.YtilcmkiihefkkaaGreatDoorJt40
import Derived.Test.YtilcmkiihefkkaaGreatDoorJt41
section
set_option linter.unusedVariables false
set_option linter.unusedSimpArgs false
set_option maxRecDepth 100000
namespace Go.Proofs.YtilcmkiihefkkaaGreatDoor.Mn
open Go.RowKit Go.Shelf Go.Lib Go.Sort Go.Maps
theorem Tryz.info180x : (Tryz.prog.info? 180).map (fun i => (i.zero, i.size, i.bytes)) = some (some (.agg #[.int .i64 0, .bool false, .slice none 0 0, .float .f64 0]), 4, 48) := by kernel_rfl
theorem invS (key : Value) (kl : Lit) (h : keyOf Tryz.prog 178 key = some kl) : ∃ x : Int × Bool, key = vS x := by
  obtain ⟨xs, L, rfl, hl, _⟩ := keyOf_top wideS h
  have hc : Tryz.prog.cellsOf 178 = 2 := by kernel_rfl
  have hc3 : Tryz.prog.cellsOf 3 = 1 := by kernel_rfl
  have hc4 : Tryz.prog.cellsOf 4 = 1 := by kernel_rfl
  obtain ⟨m, hm⟩ : ∃ m, Tryz.prog.types.size + 1 = m + 2 := ⟨Tryz.prog.types.size - 1, by have h : (178 : Nat) < Tryz.prog.types.size := rowS_; omega⟩
  rw [hm] at hl
  unfold Program.keyLits at hl
  rw [Tryz.underlying178] at hl
  simp only [hc] at hl
  split at hl
  · rename_i hlen
    match hx : xs.toList, hlen.1 with
    | [a, b], _ =>
      rw [hx] at hl
      simp [hc3, hc4, Program.keyLits, Tryz.underlying3, Tryz.underlying4] at hl
      have ea : ∃ n, a = .int .i64 n := by
        cases a with
        | int q n =>
          by_cases hq : q = IntKind.i64
          · subst hq; exact ⟨n, rfl⟩
          · simp [hq] at hl
        | _ => simp at hl
      obtain ⟨n, rfl⟩ := ea
      have eb : ∃ c, b = .bool c := by
        cases b with
        | bool c => exact ⟨c, rfl⟩
        | _ => by_cases hw : (Lit.int .i64 n).wf = true <;> simp [hw] at hl
      obtain ⟨c, rfl⟩ := eb
      refine ⟨(n, c), ?_⟩
      have : xs = #[.int .i64 n, .bool c] := by rw [← Array.toArray_toList (xs := xs), hx]
      rw [this]; rfl
  · cases hl
structure Sk where
  n : Int
  b : Bool
def vK (x : Sk) : Value := .agg #[.int .i64 x.n, .bool x.b]
theorem invK (key : Value) (kl : Lit) (h : keyOf Tryz.prog 178 key = some kl) : ∃ x : Sk, key = vK x := by
  obtain ⟨x, rfl⟩ := invS key kl h
  exact ⟨⟨x.1, x.2⟩, rfl⟩
/-- what Chain says of a side -/
def ansQ (L : List (Int × Int)) (k : Int) : Int := if errC L k = 0 then chQ k L else 0
theorem fq0 : fq 0 = 0 := by decide
theorem ansF_q (L : List (Int × Int)) (k : Int) : ansF L k = fq (ansQ L k) := by unfold ansF ansQ; split; rfl; exact fq0.symm
theorem ansQ_bd (L : List (Int × Int)) (k : Int) : 0 ≤ ansQ L k ∧ ansQ L k ≤ 100000 := by
  unfold ansQ
  split
  · rename_i h; have := chQ_bound L k h; exact ⟨this.1, this.2.1⟩
  · omega
/-- candidates under way -/
structure CdI (w : World) (G : Int × Bool → List (Int × Int)) (k : Int) (Gb r n : Nat) (D : DataW Value) (left : Lit → Bool) (cnt : Nat) (lv : Value) (Vc : Int × Bool → Value) (L : List Cd) (wr : World) : Prop where
  rg : wr.ranges Tryz.prog 178 rawR Gb r n D left cnt
  ls : OwnR wr w.heap.size 180 4 lv L.length (L.flatMap (encC Vc (fun q => ansQ (G q) k)))
  nn : lv.ownBlock ≠ none
  ch : ∀ a ∈ L, OwnR wr w.heap.size 119 2 (Vc (sd a)) (ansM (G (sd a)) k).length (acells (ansM (G (sd a)) k))
  nd : L.Nodup
  mem : ∀ a, a ∈ L ↔ (G (sd a) ≠ [] ∧ left (kS (sd a)) = false)
  one : ∀ q, (Vc q).oneCell' = true
  bl : Below w.heap.size w wr
  cn : L.length + cnt ≤ Maps.size D
  lw : w.heap.size ≤ r
/-- what candidates answers -/
def CaP (G : Int × Bool → List (Int × Int)) (k : Int) (w : World) (e : Ending) (w' : World) : Prop :=
  ∃ (v : Value) (Vc : Int × Bool → Value) (C : List Cd), e = .returned v ∧ Below w.heap.size w w' ∧ OwnR w' w.heap.size 180 4 v C.length (C.flatMap (encC Vc (fun q => ansQ (G q) k))) ∧ (∀ a ∈ C, OwnR w' w.heap.size 119 2 (Vc (sd a)) (ansM (G (sd a)) k).length (acells (ansM (G (sd a)) k))) ∧
    C.Pairwise (ltC (fun q => ansQ (G q) k)) ∧ (∀ a, a ∈ C ↔ G (sd a) ≠ []) ∧ C.length ≤ 400
theorem ranges_at {P : Program} {K : TypeId} {R : Value → Option (DataW Value × List MemPlace)} {w w' : World} {b r n : Nat} {D : DataW Value} {left : Lit → Bool} {cnt : Nat} (h : w.ranges P K R b r n D left cnt) (hb : w'.heap[b]? = w.heap[b]?) (hr : w'.heap[r]? = w.heap[r]?) : w'.ranges P K R b r n D left cnt := by
  obtain ⟨es, clock, since, seen, c0, h1, F, h2, h3, h4, rest⟩ := h
  exact ⟨es, clock, since, seen, c0, hb.trans h1, F, h2, h3, hr.trans h4, rest⟩
theorem ranges_blocks {P : Program} {K : TypeId} {R : Value → Option (DataW Value × List MemPlace)} {w : World} {b r n : Nat} {D : DataW Value} {left : Lit → Bool} {cnt : Nat} (h : w.ranges P K R b r n D left cnt) {base : Nat} {e : TypeId} {size : Nat} {v : Value} {m : Nat} {xs : List Value} (ho : OwnR w base e size v m xs) : v.ownBlock ≠ some b ∧ v.ownBlock ≠ some r := by
  obtain ⟨es, clock, since, seen, c0, h1, F, h2, h3, h4, rest⟩ := h
  obtain ⟨_, ho⟩ := ho
  rcases ho with ⟨rfl, _⟩ | ⟨g, o, cap, cur, rfl, _, hg, _⟩
  · simp [Value.ownBlock]
  · simp only [Value.ownBlock, ne_eq, Option.some.injEq]
    constructor
    · intro e; rw [e, h1] at hg; cases hg
    · intro e; rw [e, h4] at hg; cases hg
theorem cbox_cells (W : World) (a b c d : Value) (s : Nat) (hs : s = W.heap.size) : ∀ j u, ([a, b, c, d] : List Value)[j]? = some u → (W.alloc (.cells #[a, b, c, d] 180)).cell? ((⟨s, 0, none⟩ : Addr).add j) = some u := by
  intro j u hj
  subst hs
  have h := heap_alloc_new W (.cells #[a, b, c, d] 180)
  rw [Addr.add_lit, cell_of_row _ _ _ _ _ _ h]
  match j, hj with
  | 0, hj => simpa using hj
  | 1, hj => simpa using hj
  | 2, hj => simpa using hj
  | 3, hj => simpa using hj
theorem encC_congr (Vc Vc' : Int × Bool → Value) (Q : Int × Bool → Int) (L : List Cd) (h : ∀ a ∈ L, Vc' (sd a) = Vc (sd a)) : L.flatMap (encC Vc' Q) = L.flatMap (encC Vc Q) := by
  induction L with
  | nil => rfl
  | cons x t ih =>
    rw [List.flatMap_cons, List.flatMap_cons, ih (fun a ha => h a (List.mem_cons_of_mem _ ha))]
    unfold encC
    rw [h x (List.mem_cons_self)]
theorem ltC_sorted (Q : Int × Bool → Int) (L : List Cd) (hn : L.Nodup) : (L.mergeSort (leC Q)).Pairwise (ltC Q) := by
  have htr : ∀ a b c : Cd, leC Q a b = true → leC Q b c = true → leC Q a c = true := by
    intro a b c h1 h2
    simp only [leC, Bool.not_eq_true'] at h1 h2 ⊢
    rw [ltC_not] at *
    unfold ltC at *
    omega
  have hto : ∀ a b : Cd, (leC Q a b || leC Q b a) = true := by
    intro a b
    cases h : leC Q a b
    · simp only [leC, Bool.not_eq_false'] at h
      rw [ltC_iff] at h
      simp only [Bool.false_or, leC, Bool.not_eq_true']
      rw [ltC_not]
      unfold ltC at *
      omega
    · rfl
  have hs := List.pairwise_mergeSort htr hto L
  have hnd : (L.mergeSort (leC Q)).Nodup := ((List.mergeSort_perm L (leC Q)).nodup_iff).2 hn
  refine (hs.and hnd).imp ?_
  intro a b hab
  obtain ⟨h1, h2⟩ := hab
  simp only [leC, Bool.not_eq_true'] at h1
  rw [ltC_not] at h1
  by_cases hl : ltC Q a b
  · exact hl
  · exfalso
    apply h2
    apply tw_inj
    unfold ltC at *
    omega
set_option maxHeartbeats 4000000 in
theorem cands_some (G : Int × Bool → List (Int × Int)) (V : Int × Bool → Value) (Gb base n : Nat) (k : Int) (w : World) (hS : SdP w base Gb n V G) (hn : n ≤ 400) (hG : ∀ q, G q ≠ [] → 0 ≤ q.1 ∧ q.1 < 100000) (hGl : ∀ q, (G q).length ≤ 400) :
    Calls Tryz.prog 77 #[.map (some Gb), .int .i64 k] w fun e w' => CaP G k w e w' := by
  obtain ⟨i0, hi, hz0, hz1, hz2⟩ := info_parts Tryz.info180x
  obtain ⟨D, hD, h1, h2, h3⟩ := hS.map
  have hDl : Maps.size D ≤ n := hD.size_le
  have hGb := hS.lt
  have HS : Hid (SdP w base Gb n V G) := hS
  have H1 := (show Hid _ from h1)
  have H2 := (show Hid _ from h2)
  have H3 := (show Hid _ from h3)
  have HD : Hid (w.ownsMap Tryz.prog 178 rawR Gb n D) := hD
  have HG : Hid (∀ q, G q ≠ [] → 0 ≤ q.1 ∧ q.1 < 100000) := hG
  have HGL : Hid (∀ q, (G q).length ≤ 400) := hGl
  clear hS h1 h2 h3 hG hGl
  go_enter Tryz.func77, Tryz.ntmps77
  go_wp2_with (first
    | (at_len; refine wpList_len_own _ rfl _ 175 rfl 178 115 Tryz.underlying175 rawR Gb n D rfl hD ?_)
    | (at_make; refine wpList_make_own _ rfl _ _ 173 rfl w.heap.size 180 i0 _ 4 Tryz.underlying173 hi hz0 hz1 .i64 .i64 _ (Maps.size D) rfl rfl rfl (by rw [hz2]; omega) (by unfold maxLen; omega) (Nat.le_refl _) ?_; intro w1 hown1 hgr1)
    | (at_range; refine wpList_range_own _ rfl _ 175 rfl 178 115 (Keyed.of_law lawS) Tryz.underlying175 rawR Gb n D rfl (hD.kept hgr1 (by simp)) ?_; intro w2 hrg2 hgr2 hs2))
  go_frame
  obtain ⟨r, hr⟩ : ∃ r, r = w1.heap.size := ⟨_, rfl⟩
  rw [← hr] at hrg2 ⊢
  have hb1 : Below w.heap.size w w1 := ⟨hgr1.os, hgr1.tape, hgr1.output, hgr1.size, fun g hg => hgr1.block g hg (by simp)⟩
  have hb12 : Below w1.heap.size w1 w2 := ⟨hgr2.os, hgr2.tape, hgr2.output, hgr2.size, fun g hg => hgr2.block g hg (by simp)⟩
  have okC : ∀ a : Cd, okS (sd a) := fun a => by unfold okS sd; exact WalkArith.wf_i64 (by have := a.1.isLt; omega)
  have hI0 : CdI w G k Gb r n D (Maps.has D) (Maps.size D) (Value.slice (some { block := w.heap.size, off := 0 }) 0 (Maps.size D)) (fun _ => nilS) [] w2 := by
    refine ⟨hrg2, (OwnR.of_ownsRow hown1 (Nat.le_refl _)).other (fun g _ hg => hb12.block g hg), by simp [Value.ownBlock], fun a ha => (by cases ha), List.nodup_nil, fun a => ?_, fun _ => rfl, hb1.trans (hb12.mono hb1.size), by simp, by rw [hr]; exact hb1.size⟩
    constructor
    · intro ha; cases ha
    · rintro ⟨hne, hl⟩
      rw [H2.out (sd a) (okC a)] at hl
      exact absurd (by simpa using hl) hne
  have HI0 := (show Hid _ from hI0)
  have HOK : Hid (∀ a : Cd, okS (sd a)) := okC
  clear hI0 hrg2 hgr2 hs2 hown1 hgr1 hb1 hb12 hr okC hD
  go_loopw [5] (fun lv wr => ∃ left cnt Vc L, CdI w G k Gb r n D left cnt lv Vc L wr) (fun _ wr => wr.rangeLeft Gb r)
  case atStart => exact ⟨_, _, _, _, HI0.out⟩
  case round =>
    obtain ⟨left, cnt, Vc, L, hI⟩ := hrel
    have HI : Hid (CdI w G k Gb r n D left cnt u5 Vc L wr) := hI
    have hrg := hI.rg
    clear hI
    go_wp2_with (at_next; refine wpList_next_ranges _ rfl _ rfl 178 (Keyed.of_law lawS) rawR vK id invK (fun v y hv => ⟨v, rfl⟩) Gb r n D left cnt rfl hrg ?_ ?_)
    · intro hc0 hl0
      obtain ⟨g, o, cp, hu5⟩ : ∃ g o cp, u5 = .slice (some ⟨g, o, none⟩) L.length cp := by
        rcases HI.out.ls.2 with ⟨h, _⟩ | ⟨g, o, cap, cur, h, _⟩
        · exact absurd (by rw [h]; rfl) HI.out.nn
        · exact ⟨g, o, cap, h⟩
      subst hu5
      have hLl : L.length ≤ 400 := by have := HI.out.cn; omega
      have HL0 : Hid (∀ kl, left kl = false) := hl0
      have cS := sortC_any Vc (fun q => ansQ (G q) k) HI.out.one (fun q => ansQ_bd _ _) L L.length rfl (by omega) w.heap.size g o cp wr HI.out.ls
      clear hl0 hc0
      go_wp2_with fail
      refine cS.mono ?_
      rintro e w4 ⟨rfl, hown4, hfr4, hs4, ho4⟩
      have HO4 := (show Hid _ from hown4)
      have HF4 := (show Hid _ from hfr4)
      have HS4 := (show Hid _ from ho4)
      clear hown4 hfr4 ho4 cS
      go_wp2
      go_ret
      have hgl := (HI.out.ls.lt (g := g) rfl).1
      refine ⟨_, Vc, L.mergeSort (leC fun q => ansQ (G q) k), rfl, ?_, ?_, ?_, ltC_sorted _ L HI.out.nd, ?_, ?_⟩
      · refine ⟨HS4.out.1.trans HI.out.bl.os, HS4.out.2.1.trans HI.out.bl.tape, HS4.out.2.2.trans HI.out.bl.output, Nat.le_trans HI.out.bl.size hs4, fun j hj => ?_⟩
        rw [HF4.out j (Nat.lt_of_lt_of_le hj HI.out.bl.size) (by omega)]
        exact HI.out.bl.block j hj
      · rw [List.length_mergeSort]; exact HO4.out
      · intro a ha
        rw [List.mem_mergeSort] at ha
        refine (HI.out.ch a ha).other (fun j hj hjl => HF4.out j hjl (fun e => ?_))
        obtain ⟨g', o', cap', cur', e', _, hg', _⟩ : ∃ g' o' cap' cur', Value.slice (some ⟨g, o, none⟩) L.length cp = .slice (some ⟨g', o', none⟩) L.length cap' ∧ True ∧ wr.heap[g']? = some (.cells cur' 180 (0, 0)) ∧ True := by
          rcases HI.out.ls.2 with ⟨h, _⟩ | ⟨g', o', cap', cur', h, _, hg', _⟩
          · simp at h
          · exact ⟨g', o', cap', cur', h, trivial, hg', trivial⟩
        simp only [Value.slice.injEq, Option.some.injEq, Addr.mk.injEq, and_true, true_and] at e'
        obtain ⟨⟨rfl, rfl⟩, rfl⟩ := e'
        exact (HI.out.ch a ha).tag (by decide) hg' (e ▸ hj)
      · intro a
        rw [List.mem_mergeSort, HI.out.mem a]
        exact ⟨fun h => h.1, fun h => ⟨h, HL0.out _⟩⟩
      · rw [List.length_mergeSort]; exact hLl
    · intro q v kl yd yp w3 cnt3 hkey hlk hv hat hrg3 hlt hg3 hs3 hen
      have hyd : yd = .held v := by
        simp only [rawR, id, Option.some.injEq, Prod.mk.injEq] at hv
        exact hv.1.symm
      have hhas : Maps.has D kl = true := Maps.has_true_of_atKey hat
      obtain ⟨s, hos, rfl⟩ := H3.out kl hhas
      have hqs : (q.n, q.b) = s := by
        have := (Keyed.of_law lawS).inj hkey (keyS s hos)
        simp only [vK, vS, Value.agg.injEq, Array.mk.injEq, List.cons.injEq, Value.int.injEq, Value.bool.injEq, true_and, and_true] at this
        exact Prod.ext this.1 this.2
      subst hqs
      have hvV : v = V (q.n, q.b) := by
        have h1 := hat (.held nilS)
        rw [H1.out _ hos, hyd] at h1
        simp only [DataW.held.injEq] at h1
        exact h1.symm
      have hGne : G (q.n, q.b) ≠ [] := by
        have := H2.out _ hos
        rw [hhas] at this
        intro h; rw [h] at this; cases this
      have hb := HG.out _ hGne
      simp only at hb
      obtain ⟨a, ha⟩ : ∃ a : Cd, sd a = (q.n, q.b) := ⟨(⟨q.n.toNat, by omega⟩, q.b), by unfold sd; simp; omega⟩
      obtain ⟨m, hm⟩ : ∃ m, m = (G (q.n, q.b)).length := ⟨_, rfl⟩
      have hVo := HS.out.own (q.n, q.b) hos
      obtain ⟨ao, cp, hvs⟩ : ∃ ao cp, V (q.n, q.b) = .slice ao m cp := by
        rcases hVo.2 with ⟨h, h0⟩ | ⟨g, o, cap, cur, h, _⟩
        · exact absurd (List.eq_nil_of_length_eq_zero h0) hGne
        · exact ⟨_, _, by rw [hm]; exact h⟩
      rw [hvs] at hvV
      subst hvV
      have hb3 : ∀ j, j < w.heap.size → w3.heap[j]? = w.heap[j]? := fun j hj => by
        rw [hg3.block j (Nat.lt_of_lt_of_le hj HI.out.bl.size) (fun e => by have := HI.out.lw; simp at e; omega)]
        exact HI.out.bl.block j hj
      obtain ⟨n3, hn3⟩ : ∃ n3, n3 = w3.heap.size := ⟨_, rfl⟩
      have hcg : ∀ W : World, (∀ j, j < w.heap.size → W.heap[j]? = w.heap[j]?) → w.heap.size ≤ W.heap.size → RdA W ao (G (q.n, q.b)) := by
        intro W hW hsz
        right
        rcases hVo.2 with ⟨h, h0⟩ | ⟨g, o, cap, cur, h, _, hg, _, _, _, hc⟩
        · exact absurd (List.eq_nil_of_length_eq_zero h0) hGne
        · rw [hvs] at h
          simp only [Value.slice.injEq] at h
          refine ⟨g, o, h.1, Nat.lt_of_lt_of_le (lt_of_block hg) hsz, fun j hj => ?_⟩
          have h2 := acells_at (G (q.n, q.b)) j hj
          rw [Nat.mul_comm 2 j] at h2
          have hgW := (hW g (lt_of_block hg)).trans hg
          exact ⟨cell_at hgW (hc _ _ h2.1), cell_at hgW (hc _ _ h2.2)⟩
      have HCG := (show Hid _ from hcg)
      have HB3 : Hid (∀ j, j < w.heap.size → w3.heap[j]? = w.heap[j]?) := hb3
      have HM : Hid ((G (q.n, q.b)).length = m) := hm.symm
      have HRG3 : Hid (w3.ranges Tryz.prog 178 rawR Gb r n D (fun z => left z && !z.sameKey (kS (q.n, q.b))) cnt3) := hrg3
      have HG3 : Hid (wr.grownBy w3 (some r)) := hg3
      have HS3 : Hid (w3.heap.size = wr.heap.size) := hs3
      have HLK : Hid (left (kS (q.n, q.b)) = true) := hlk
      have HEN : Hid _ := hen
      have hws : w.heap.size ≤ w3.heap.size := by have := HI.out.bl.size; omega
      have hen' : (Instr.entry (Value.pointer (some { block := r, off := 0 }))).run Tryz.prog w3 = .ok (.tuple #[.agg #[.int .i64 q.n, .bool q.b], .slice ao m cp]) w3 := hen
      have hvK : vK q = .agg #[.int .i64 q.n, .bool q.b] := rfl
      rw [hvK]
      clear hcg hb3 hm hrg3 hg3 hs3 hen hkey hlk hv hat hyd hhas hVo hvs HEN hn3
      go_wp2_with fail
      obtain ⟨w4, hw4⟩ : ∃ W : World, W = w3.alloc (Obj.cells #[Value.int IntKind.i64 q.n, Value.bool q.b] 178) := ⟨_, rfl⟩
      have hb4 : Below w3.heap.size w3 w4 := by rw [hw4]; exact (Below.refl _ _).alloc (Nat.le_refl _) _
      have hn4 : w4.heap[w3.heap.size]? = some (.cells #[Value.int IntKind.i64 q.n, Value.bool q.b] 178 (0, 0)) := by rw [hw4]; exact heap_alloc_new w3 _
      rw [← hw4]
      clear hw4 hen'
      refine (achain_all (G (q.n, q.b)) m HM.out ao cp k w4 (HCG.out w4 (fun j hj => (hb4.block j (Nat.lt_of_lt_of_le hj hws)).trans (HB3.out j hj)) (Nat.le_trans hws hb4.size))).mono ?_
      rintro e w5 ⟨v', rfl, hb5, hown5, _⟩
      obtain ⟨ao', cp', rfl⟩ := hown5.form
      have hm5 : w5.heap[w3.heap.size]? = some (.cells #[Value.int IntKind.i64 q.n, Value.bool q.b] 178 (0, 0)) := (hb5.block _ (lt_of_block hn4)).trans hn4
      have s0 := cell_at hm5 (i := 0) rfl
      have s1 := cell_at hm5 (i := 1) rfl
      have h35 : Below w3.heap.size w3 w5 := hb4.trans (hb5.mono hb4.size)
      have HF : Hid (ansF (G (q.n, q.b)) k = fq (ansQ (G (sd a)) k)) := by rw [ha]; exact ansF_q _ _
      obtain ⟨fv, hfv⟩ : ∃ fv, fv = ansF (G (q.n, q.b)) k := ⟨_, rfl⟩
      have HFV : Hid (fv = fq (ansQ (G (sd a)) k)) := hfv.trans HF.out
      rw [← hfv]
      obtain ⟨ml, hml⟩ : ∃ ml, ml = (ansM (G (q.n, q.b)) k).length := ⟨_, rfl⟩
      rw [← hml] at hown5 ⊢
      have HO5 : Hid (OwnR w5 w4.heap.size 119 2 (.slice ao' ml cp') ml (acells (ansM (G (q.n, q.b)) k))) := hown5
      have HML : Hid (ml = (ansM (G (q.n, q.b)) k).length) := hml
      have hu5w : OwnR w3 w.heap.size 180 4 u5 L.length (L.flatMap (encC Vc (fun q => ansQ (G q) k))) := HI.out.ls.other (fun g hg hgl => HG3.out.block g hgl (fun e => (ranges_blocks HI.out.rg HI.out.ls).2 (by rw [hg]; exact e)))
      have hLl : L.length + 1 ≤ 400 := by have := HI.out.cn; omega
      have HH35 : Hid (Below w3.heap.size w3 w5) := h35
      have H45 : Hid (w3.heap.size ≤ w4.heap.size) := hb4.size
      clear hfv hml hown5 hm5 hb4 hb5 hn4 h35 HF
      go_wp2_with (refine wpList_own _ rfl (.tmp 28) (.tmp 33) 173 rfl 180 i0 _ 4 48 Tryz.underlying173 hi hz0 hz1 hz2 rfl (by decide) w.heap.size u5 L.length (L.flatMap (encC Vc (fun q => ansQ (G q) k))) rfl (hu5w.other (fun g _ hg => (Below.heap_alloc w5 _ g (Nat.lt_of_lt_of_le hg HH35.out.size)).trans (HH35.out.block g hg))) ⟨w5.heap.size, 0, none⟩ 1 [.int .i64 q.n, .bool q.b, .slice ao' ml cp', .float .f64 fv] rfl rfl (cbox_cells w5 _ _ _ _ _ rfl) (by intro u hu; simp at hu; rcases hu with rfl | rfl | rfl | rfl <;> rfl) (by unfold maxLen; omega) (by omega) (by have := HH35.out.size; simp; omega) ?_; intro g' o' cap' w7 hown7 hfr7)
      have hk6 : ∀ j, j < w5.heap.size → u5.ownBlock ≠ some j → w7.heap[j]? = w5.heap[j]? := fun j hj hne => (hfr7.other j (by simp; omega) hne).trans (Below.heap_alloc w5 _ j hj)
      have h35s := HH35.out.size
      have hk7 : ∀ j, j < w3.heap.size → u5.ownBlock ≠ some j → w7.heap[j]? = w3.heap[j]? := fun j hj hne => (hk6 j (by omega) hne).trans (HH35.out.block j hj)
      have hs7 : w5.heap.size + 1 ≤ w7.heap.size := by have := hfr7.size; simp at this; exact this
      have hubl : ∀ g, u5.ownBlock = some g → w.heap.size ≤ g ∧ g < w3.heap.size := fun g hg => hu5w.lt hg
      have hrb := ranges_blocks HRG3.out hu5w
      have hrlt := HRG3.out.lt
      have hrg7 := ranges_at HRG3.out (hk7 Gb (by omega) hrb.1) (hk7 r hrlt hrb.2)
      have haL : a ∉ L := fun h => by
        have := ((HI.out.mem a).1 h).2
        rw [ha, HLK.out] at this
        cases this
      have hsd : ∀ b : Cd, sd b = sd a → b = a := fun b h => tw_inj b a (by rw [h])
      have heq : ∀ b : Cd, b ≠ a → eqS (sd b) (q.n, q.b) = false := fun b hb => by
        cases h : eqS (sd b) (q.n, q.b)
        · rfl
        · exact absurd (hsd b (((eqS_iff _ _).1 h).trans ha.symm)) hb
      have hVb : ∀ b : Cd, b ≠ a → updF eqS Vc (q.n, q.b) (.slice ao' ml cp') (sd b) = Vc (sd b) := fun b hb => by unfold updF; rw [heq b hb]; rfl
      have hVa : updF eqS Vc (q.n, q.b) (.slice ao' ml cp') (sd a) = .slice ao' ml cp' := by unfold updF; rw [ha, (eqS_iff _ _).2 rfl]; rfl
      refine ⟨⟨fun z => left z && !z.sameKey (kS (q.n, q.b)), cnt3, updF eqS Vc (q.n, q.b) (.slice ao' ml cp'), L ++ [a], hrg7, ?_, by simp [Value.ownBlock], ?_, ?_, ?_, ?_, ?_, ?_, HI.out.lw⟩, ?_⟩
      · rw [List.flatMap_append, encC_congr Vc _ _ L (fun b hb => hVb b (fun e => haL (e ▸ hb))), List.length_append]
        have e1 : ([a] : List Cd).flatMap (encC (updF eqS Vc (q.n, q.b) (.slice ao' ml cp')) fun q => ansQ (G q) k) = [.int .i64 q.n, .bool q.b, .slice ao' ml cp', .float .f64 fv] := by
          have e2 : ((a.1.val : Int), a.2) = (q.n, q.b) := ha
          simp only [Prod.mk.injEq] at e2
          simp only [List.flatMap_cons, List.flatMap_nil, List.append_nil, encC, hVa, HFV.out, e2.1, e2.2]
        rw [e1]
        exact hown7
      · intro b hb
        rcases List.mem_append.1 hb with hb | hb
        · have hne : b ≠ a := fun e => haL (e ▸ hb)
          rw [hVb b hne]
          have h1 := HI.out.ch b hb
          have h3 : OwnR w3 w.heap.size 119 2 (Vc (sd b)) (ansM (G (sd b)) k).length (acells (ansM (G (sd b)) k)) := h1.other (fun g hg hgl => HG3.out.block g hgl (fun e => (ranges_blocks HI.out.rg h1).2 (by rw [hg]; exact e)))
          exact h3.other (fun g hg hgl => hk7 g hgl (h3.apart hu5w (by decide) hg))
        · simp at hb
          subst hb
          rw [hVa, ha, ← HML.out]
          refine (HO5.out.other (fun g hg hgl => hk6 g hgl (fun e => ?_))).low (by have := H45.out; omega)
          have h1 := (HO5.out.lt hg).1
          have h2 := (hubl g e).2
          have := H45.out
          omega
      · rw [List.nodup_append]
        refine ⟨HI.out.nd, by simp, fun x hx y hy => ?_⟩
        simp at hy
        subst hy
        exact fun e => haL (e ▸ hx)
      · intro b
        by_cases hb : b = a
        · subst hb
          constructor
          · intro _
            refine ⟨by rw [ha]; exact hGne, ?_⟩
            rw [ha, WideAt.sameKey_self ((Keyed.of_law lawS).key (keyS _ hos))]
            simp
          · intro _; simp
        · have h1 : (kS (sd b)).sameKey (kS (q.n, q.b)) = false := Maps.sameKey_ne (fun e => hb (hsd b ((kS_inj _ _ (HOK.out b) hos e).trans ha.symm)))
          rw [h1]
          simp only [Bool.not_false, Bool.and_true, List.mem_append, List.mem_singleton, hb, or_false]
          exact HI.out.mem b
      · intro s
        unfold updF
        split
        · rfl
        · exact HI.out.one s
      · refine ⟨?_, ?_, ?_, by omega, fun g hg => ?_⟩
        · exact hfr7.os.trans (HH35.out.os.trans (HG3.out.os.trans HI.out.bl.os))
        · exact hfr7.tape.trans (HH35.out.tape.trans (HG3.out.tape.trans HI.out.bl.tape))
        · exact hfr7.output.trans (HH35.out.output.trans (HG3.out.output.trans HI.out.bl.output))
        · rw [hk7 g (by omega) (fun e => by have := (hubl g e).1; omega)]
          exact HB3.out g hg
      · have := HI.out.cn
        simp only [List.length_append, List.length_singleton]
        omega
      · rw [hrg7.left_eq, HI.out.rg.left_eq]
        exact hlt
end Go.Proofs.YtilcmkiihefkkaaGreatDoor.Mn
end
section
set_option linter.unusedVariables false
set_option linter.unusedSimpArgs false
set_option maxRecDepth 100000
namespace Go.Proofs.YtilcmkiihefkkaaGreatDoor.Mn
open Go.RowKit Go.Shelf Go.Lib Go.Sort Go.Maps
set_option maxHeartbeats 4000000 in
theorem cands_nil (k : Int) (w : World) :
    Calls Tryz.prog 77 #[.map none, .int .i64 k] w fun e w' => ∃ ao cp, e = .returned (.slice ao 0 cp) ∧ Below w.heap.size w w' := by
  obtain ⟨i0, hi, hz0, hz1, hz2⟩ := info_parts Tryz.info180x
  have hln : ∀ (W : World) (ty : TypeId), (Builtin.len_ #[175] ty #[.map none]).run Tryz.prog W = .ok (.int .i64 0) W := fun W ty => Maps.len_nil Tryz.underlying175 ty
  have hrn : ∀ W : World, (Instr.range 175 (.map none)).run Tryz.prog W = .ok (.pointer (some ⟨W.heap.size, 0, none⟩)) (W.alloc (.mapIter none 0 #[] 0)) := fun W => run_range_nilMap W 175 178 115 Tryz.underlying175
  have hnx : ∀ (W : World) (ty : TypeId), (Instr.next (.pointer (some ⟨W.heap.size, 0, none⟩)) false ty).run Tryz.prog (W.alloc (.mapIter none 0 #[] 0)) = .ok (.tuple #[.bool false]) (W.alloc (.mapIter none 0 #[] 0)) := fun W ty => run_next_nilMap W ty 0 0 #[]
  go_enter Tryz.func77, Tryz.ntmps77
  go_wp2_with (at_make; refine wpList_make_own _ rfl _ _ 173 rfl w.heap.size 180 i0 _ 4 Tryz.underlying173 hi hz0 hz1 .i64 .i64 _ 0 rfl rfl rfl (by omega) (by unfold maxLen; omega) (Nat.le_refl _) ?_; intro w1 hown1 hgr1)
  have HO1 : Hid (OwnR w1 w.heap.size 180 4 (.slice (some ⟨w.heap.size, 0, none⟩) 0 0) 0 []) := OwnR.of_ownsRow hown1 (Nat.le_refl _)
  have HB1 : Hid (Below w.heap.size w w1) := ⟨hgr1.os, hgr1.tape, hgr1.output, hgr1.size, fun g hg => hgr1.block g hg (by simp)⟩
  clear hown1 hgr1
  go_loopw [5] (fun lv wr => lv = .slice (some ⟨w.heap.size, 0, none⟩) 0 0 ∧ wr = w1.alloc (.mapIter none 0 #[] 0)) (fun _ _ => 0)
  case atStart => exact ⟨rfl, rfl⟩
  case round =>
    obtain ⟨rfl, rfl⟩ := hrel
    have hw : Below w1.heap.size w1 (w1.alloc (.mapIter none 0 #[] 0)) := (Below.refl _ _).alloc (Nat.le_refl _) _
    have cS := sortC_any (fun _ => nilS) (fun _ => 0) (fun _ => rfl) (fun _ => by omega) [] 0 rfl (by omega) w.heap.size w.heap.size 0 0 (w1.alloc (.mapIter none 0 #[] 0)) (HO1.out.other (fun g _ hg => hw.block g hg))
    go_wp2_with fail
    refine cS.mono ?_
    rintro e w4 ⟨rfl, _, hfr4, hs4, ho4⟩
    have HF4 := (show Hid _ from hfr4)
    have HS4 := (show Hid _ from ho4)
    have HW : Hid _ := hw
    clear hfr4 ho4 cS hw
    go_wp2
    go_ret
    refine ⟨_, _, rfl, ?_⟩
    have hb := HB1.out.trans (HW.out.mono HB1.out.size)
    refine ⟨HS4.out.1.trans hb.os, HS4.out.2.1.trans hb.tape, HS4.out.2.2.trans hb.output, Nat.le_trans hb.size hs4, fun j hj => ?_⟩
    rw [HF4.out j (Nat.lt_of_lt_of_le hj hb.size) (by omega)]
    exact hb.block j hj
end Go.Proofs.YtilcmkiihefkkaaGreatDoor.Mn
end
section
set_option linter.unusedVariables false
set_option linter.unusedSimpArgs false
set_option maxRecDepth 100000
namespace Go.Proofs.YtilcmkiihefkkaaGreatDoor.Mn
open Go.RowKit
def c0 (L : List (Int × Int)) : Int × Int := L.getD 0 (0, 0)
def c1 (L : List (Int × Int)) : Int × Int := L.getD (L.length - 1) (0, 0)
theorem ris_le (C : List (Int × Int)) (h : risN C C.length) : ∀ i, i < C.length → (C.getD 0 A0).1 ≤ (C.getD i A0).1 ∧ (C.getD 0 A0).2 ≤ (C.getD i A0).2
  | 0, _ => ⟨Int.le_refl _, Int.le_refl _⟩
  | i + 1, hi => by
    have ih := ris_le C h i (by omega)
    have h1 := h i hi
    unfold fol at h1
    omega
/-- what holds of the chain of a side -/
structure CdF (k : Nat) (R : List S2) (rb : ByteArray) (q : Int × Bool) (G : List (Int × Int)) (r0 p0 r1 p1 : Nat) : Prop where
  q0 : 0 ≤ q.1
  qi : q.1.toNat < R.length
  err : errC G k = 0
  len : 0 < (chL k G).length
  e0 : c0 (chL k G) = ((r0 : Int), (p0 : Int))
  e1 : c1 (chL k G) = ((r1 : Int), (p1 : Int))
  le0 : r0 ≤ r1
  le1 : p0 ≤ p1
  b0 : r1 + k ≤ rb.size
  b1 : p1 + k ≤ (R.getD q.1.toNat S0).b.size
  s0 : seg (nums (if q.2 = true then turnL rb.data.toList else rb.data.toList)) r0 k = seg (nums (R.getD q.1.toNat S0).b.data.toList) p0 k
  s1 : seg (nums (if q.2 = true then turnL rb.data.toList else rb.data.toList)) r1 k = seg (nums (R.getD q.1.toNat S0).b.data.toList) p1 k
  n0 : ∀ m ∈ seg (nums (R.getD q.1.toNat S0).b.data.toList) p0 k, m < 4
  n1 : ∀ m ∈ seg (nums (R.getD q.1.toNat S0).b.data.toList) p1 k, m < 4
  lo : 4 * (k : Int) ≤ chQ k G
  hi : chQ k G ≤ 100000
theorem cand_facts (k W : Nat) (R : List S2) (rb : ByteArray) (q : Int × Bool) (hk1 : 1 ≤ k) (hk2 : k ≤ 12) (hW : 1 ≤ W) (hR : ∀ x ∈ R, good x.b ∧ x.b.size ≤ 4000) (hg : good rb) (hrb : rb.size ≤ 300)
    (hne : (gat k W R rb).2 q ≠ []) (hlen : ((gat k W R rb).2 q).length ≤ 400) : ∃ r0 p0 r1 p1 : Nat, CdF k R rb q ((gat k W R rb).2 q) r0 p0 r1 p1 := by
  have hA : ∀ a ∈ (gat k W R rb).2 q, AnOf k W R rb q a := fun a ha => gat_mem k W R rb q a ha
  generalize (gat k W R rb).2 q = G at *
  have hRg : ∀ x ∈ R, good x.b := fun x hx => (hR x hx).1
  have hB := fun a ha => (hA a ha).bounds hk1 hk2 hW hRg hg
  have hS := fun a ha => (hA a ha).same hk1 hk2 hW hRg hg
  obtain ⟨hr, hw, h0, hm⟩ := chain_good k G hne
  have hm0 : c0 (chL k G) ∈ chL k G := by unfold c0; rw [getD_get _ _ _ h0]; exact List.getElem_mem _
  have hm1 : c1 (chL k G) ∈ chL k G := by unfold c1; rw [getD_get _ _ _ (by omega)]; exact List.getElem_mem _
  have b0 := hB _ (hm _ hm0)
  have b1 := hB _ (hm _ hm1)
  have s0 := hS _ (hm _ hm0)
  have s1 := hS _ (hm _ hm1)
  have hq : q.1.toNat < R.length := by omega
  have hsz := (hR _ (getD_mem R _ hq)).2
  have hle := ris_le _ hr ((chL k G).length - 1) (by omega)
  have hle1 : (c0 (chL k G)).1 ≤ (c1 (chL k G)).1 ∧ (c0 (chL k G)).2 ≤ (c1 (chL k G)).2 := hle
  have he : errC G k = 0 := by
    unfold errC
    have hl : G.length ≠ 0 := fun h => hne (List.eq_nil_of_length_eq_zero h)
    have ho : G.any outB = false := by
      rw [Bool.eq_false_iff]
      intro h
      rw [any_outB] at h
      apply h
      intro x hx
      have hx1 := hB x hx
      unfold okA
      omega
    rw [if_neg (by omega), if_neg (by omega), if_neg hl, ho]
    rfl
  have hcn := canon_ne G hne
  have hq1 := (tb_bounds (k : Int) (by omega) (canon G) (canon G).length (chM k G) (mxi_lt _ _ hcn)).1
  have hq2 := (chQ_bound G k he).2.1
  refine ⟨(c0 (chL k G)).1.toNat, (c0 (chL k G)).2.toNat, (c1 (chL k G)).1.toNat, (c1 (chL k G)).2.toNat, ?_⟩
  exact {
    q0 := b0.1, qi := hq, err := he, len := h0
    e0 := Prod.ext (by show _ = (((c0 (chL k G)).1.toNat : Nat) : Int); omega) (by show _ = (((c0 (chL k G)).2.toNat : Nat) : Int); omega)
    e1 := Prod.ext (by show _ = (((c1 (chL k G)).1.toNat : Nat) : Int); omega) (by show _ = (((c1 (chL k G)).2.toNat : Nat) : Int); omega)
    le0 := by omega, le1 := by omega, b0 := by omega, b1 := by omega
    s0 := s0.1, s1 := s1.1, n0 := s0.2, n1 := s1.2, lo := hq1, hi := hq2 }
end Go.Proofs.YtilcmkiihefkkaaGreatDoor.Mn
end
