import Derived.Test.YtilcmkiihefkkabGreatDoorJk41
section
set_option linter.unusedVariables false
set_option linter.unusedSimpArgs false
set_option maxRecDepth 100000
namespace Go.Proofs.YtilcmkiihefkkabGreatDoor.Mn
open Go.RowKit Go.Shelf Go.Lib Go.Sort Go.Maps
theorem Tryz.info67x : (Tryz.prog.info? 67).map (fun i => (i.zero, i.size, i.bytes)) = some (some (.agg #[.int .i64 0, .slice none 0 0]), 2, 32) := by kernel_rfl
structure Ik where
  n : Int
def vIk (x : Ik) : Value := .int .i64 x.n
theorem invI (key : Value) (kl : Lit) (h : keyOf Tryz.prog 3 key = some kl) : ∃ x : Ik, key = vIk x := by
  obtain ⟨x, rfl, _⟩ := Maps.keyOf_int_inv Tryz.underlying3 h
  exact ⟨⟨x⟩, rfl⟩
/-- entries under way -/
structure EnI (w : World) (T : Int → List W3) (V : Int → Value) (Hb r n : Nat) (D : DataW Value) (left : Lit → Bool) (cnt : Nat) (lv : Value) (L : List Ek) (wr : World) : Prop where
  rg : wr.ranges Tryz.prog 3 rawR Hb r n D left cnt
  ls : OwnR wr w.heap.size 67 2 lv L.length (L.flatMap (encE V))
  nn : lv.ownBlock ≠ none
  nd : L.Nodup
  mem : ∀ a, a ∈ L ↔ (T (hk a) ≠ [] ∧ left (kI (hk a)) = false)
  bl : Below w.heap.size w wr
  cn : L.length + cnt ≤ Maps.size D
  lw : w.heap.size ≤ r
/-- what entries answers: the hashes in order -/
def EnP (T : Int → List W3) (V : Int → Value) (m : Nat) (w : World) (e : Ending) (w' : World) : Prop :=
  ∃ (v : Value) (E : List Ek), e = .returned v ∧ Below w.heap.size w w' ∧ OwnR w' w.heap.size 67 2 v E.length (E.flatMap (encE V)) ∧ E.Pairwise (fun a b => hk a < hk b) ∧ (∀ a, a ∈ E ↔ T (hk a) ≠ []) ∧ E.length = m ∧ E.length ≤ 4000
theorem ebox_cells (W : World) (a b : Value) (s : Nat) (hs : s = W.heap.size) : ∀ j u, ([a, b] : List Value)[j]? = some u → (W.alloc (.cells #[a, b] 67)).cell? ((⟨s, 0, none⟩ : Addr).add j) = some u := by
  intro j u hj
  subst hs
  have h := heap_alloc_new W (.cells #[a, b] 67)
  rw [Addr.add_lit, cell_of_row _ _ _ _ _ _ h]
  match j, hj with
  | 0, hj => simpa using hj
  | 1, hj => simpa using hj
set_option maxHeartbeats 4000000 in
theorem entries_any (T : Int → List W3) (V : Int → Value) (D : DataW Value) (X Hb base k W sc : Nat) (rv : Value) (w : World) (hX : w.heap[X]? = some (.cells (ixC k W sc rv (.map (some Hb))) 59 (0, 0)))
    (hD : w.ownsMap Tryz.prog 3 rawR Hb 4000 D) (h1 : ∀ x, okI x → D.atKey (kI x) (.held nilS) = .held (V x)) (h2 : ∀ x, okI x → Maps.has D (kI x) = !(T x).isEmpty) (h3 : ∀ l, Maps.has D l = true → ∃ x, okI x ∧ l = kI x)
    (hV : ∀ x, okI x → OwnR w base 78 3 (V x) (T x).length (wcells (T x))) (hT : ∀ x, T x ≠ [] → 0 ≤ x ∧ x < 16777216) :
    Calls Tryz.prog 23 #[.pointer (some ⟨X, 0, none⟩)] w fun e w' => EnP T V (Maps.size D) w e w' := by
  obtain ⟨i0, hi, hz0, hz1, hz2⟩ := info_parts Tryz.info67x
  have hDl : Maps.size D ≤ 4000 := hD.size_le
  have hHb := hD.lt
  have H1 := (show Hid _ from h1)
  have H2 := (show Hid _ from h2)
  have H3 := (show Hid _ from h3)
  have HV := (show Hid _ from hV)
  have HVO : Hid (∀ a : Ek, (V (hk a)).oneCell' = true) := fun a => nil_one (hV _ (hk_ok a))
  have HT := (show Hid _ from hT)
  have HD : Hid (w.ownsMap Tryz.prog 3 rawR Hb 4000 D) := hD
  have HX : Hid _ := hX
  have hXl := lt_of_block hX
  have c4 : w.cell? ⟨X, 4, none⟩ = some (.map (some Hb)) := cell_at hX rfl
  clear h1 h2 h3 hV hT hX
  go_enter Tryz.func23, Tryz.ntmps23
  go_wp2_with (first
    | (at_len; refine wpList_len_own _ rfl _ 57 rfl 3 41 Tryz.underlying57 rawR Hb 4000 D rfl hD ?_)
    | (at_make; refine wpList_make_own _ rfl _ _ 64 rfl w.heap.size 67 i0 _ 2 Tryz.underlying64 hi hz0 hz1 .i64 .i64 _ (Maps.size D) rfl rfl rfl (by rw [hz2]; omega) (by unfold maxLen; omega) (Nat.le_refl _) ?_; intro w1 hown1 hgr1; have c4' : w1.cell? ⟨X, 4, none⟩ = some (.map (some Hb)) := cell_at ((hgr1.block X hXl (by simp)).trans HX.out) rfl)
    | (at_range; refine wpList_range_own _ rfl _ 57 rfl 3 41 lawI Tryz.underlying57 rawR Hb 4000 D rfl (hD.kept hgr1 (by simp)) ?_; intro w2 hrg2 hgr2 hs2))
  go_frame
  obtain ⟨r, hr⟩ : ∃ r, r = w1.heap.size := ⟨_, rfl⟩
  rw [← hr] at hrg2 ⊢
  have hb1 : Below w.heap.size w w1 := ⟨hgr1.os, hgr1.tape, hgr1.output, hgr1.size, fun g hg => hgr1.block g hg (by simp)⟩
  have hb12 : Below w1.heap.size w1 w2 := ⟨hgr2.os, hgr2.tape, hgr2.output, hgr2.size, fun g hg => hgr2.block g hg (by simp)⟩
  have hI0 : EnI w T V Hb r 4000 D (Maps.has D) (Maps.size D) (Value.slice (some { block := w.heap.size, off := 0 }) 0 (Maps.size D)) [] w2 := by
    refine ⟨hrg2, (OwnR.of_ownsRow hown1 (Nat.le_refl _)).other (fun g _ hg => hb12.block g hg), by simp [Value.ownBlock], List.nodup_nil, fun a => ?_, hb1.trans (hb12.mono hb1.size), by simp, by rw [hr]; exact hb1.size⟩
    constructor
    · intro ha; cases ha
    · rintro ⟨hne, hl⟩
      rw [H2.out (hk a) (hk_ok a)] at hl
      exact absurd (by simpa using hl) hne
  have HI0 := (show Hid _ from hI0)
  clear hI0 hrg2 hgr2 hs2 hown1 hgr1 hb1 hb12 hr hD c4 c4'
  go_loopw [3] (fun lv wr => ∃ left cnt L, EnI w T V Hb r 4000 D left cnt lv L wr) (fun _ wr => wr.rangeLeft Hb r)
  case atStart => exact ⟨_, _, _, HI0.out⟩
  case round =>
    obtain ⟨left, cnt, L, hI⟩ := hrel
    have HI : Hid (EnI w T V Hb r 4000 D left cnt u3 L wr) := hI
    have hrg := hI.rg
    clear hI
    go_wp2_with (at_next; refine wpList_next_ranges _ rfl _ rfl 3 lawI rawR vIk id invI (fun v y hv => ⟨v, rfl⟩) Hb r 4000 D left cnt rfl hrg ?_ ?_)
    · intro hc0 hl0
      obtain ⟨g, o, cp, hu5⟩ : ∃ g o cp, u3 = .slice (some ⟨g, o, none⟩) L.length cp := by
        rcases HI.out.ls.2 with ⟨h, _⟩ | ⟨g, o, cap, cur, h, _⟩
        · exact absurd (by rw [h]; rfl) HI.out.nn
        · exact ⟨g, o, cap, h⟩
      subst hu5
      have hLl : L.length ≤ 4000 := by have := HI.out.cn; omega
      have HL0 : Hid (∀ kl, left kl = false) := hl0
      have cS := sortE_any V HVO.out L L.length rfl (by omega) w.heap.size g o cp wr HI.out.ls
      clear hl0 hc0
      go_wp2_with fail
      refine cS.mono ?_
      rintro e w4 ⟨rfl, hown4, hfr4, hs4, ho4⟩
      have HO4 := (show Hid _ from hown4)
      have HF4 := (show Hid _ from hfr4)
      have HS4 := (show Hid _ from ho4)
      clear hown4 hfr4 ho4 cS
      go_wp2
      go_ret
      have hgl := (HI.out.ls.lt (g := g) rfl).1
      refine ⟨_, L.mergeSort leE, rfl, ?_, ?_, ltE_sorted L HI.out.nd, ?_, ?_, ?_⟩
      · refine ⟨HS4.out.1.trans HI.out.bl.os, HS4.out.2.1.trans HI.out.bl.tape, HS4.out.2.2.trans HI.out.bl.output, Nat.le_trans HI.out.bl.size hs4, fun j hj => ?_⟩
        rw [HF4.out j (Nat.lt_of_lt_of_le hj HI.out.bl.size) (by omega)]
        exact HI.out.bl.block j hj
      · rw [List.length_mergeSort]; exact HO4.out
      · intro a
        rw [List.mem_mergeSort, HI.out.mem a]
        exact ⟨fun h => h.1, fun h => ⟨h, HL0.out _⟩⟩
      · rw [List.length_mergeSort]
        have h1 := map_size lawI HD.out (L.map (fun a => kI (hk a))) (fun l hl => by
          obtain ⟨x, hx, rfl⟩ := H3.out l hl
          have hne : T x ≠ [] := by
            have := H2.out x hx
            rw [hl] at this
            intro h; rw [h] at this; cases this
          have hb := HT.out x hne
          have ea : hk (⟨x.toNat, by omega⟩ : Ek) = x := by unfold hk; simp; omega
          rw [List.mem_map]
          exact ⟨⟨x.toNat, by omega⟩, (HI.out.mem _).2 ⟨by rw [ea]; exact hne, HL0.out _⟩, by rw [ea]⟩)
        rw [List.length_map] at h1
        have := HI.out.cn
        omega
      · rw [List.length_mergeSort]; exact hLl
    · intro q v kl yd yp w3 cnt3 hkey hlk hv hat hrg3 hlt hg3 hs3 hen
      have hyd : yd = .held v := by
        simp only [rawR, id, Option.some.injEq, Prod.mk.injEq] at hv
        exact hv.1.symm
      have hhas : Maps.has D kl = true := Maps.has_true_of_atKey hat
      obtain ⟨x, hox, rfl⟩ := H3.out kl hhas
      have hqx : q.n = x := by
        have := lawI.inj hkey (keyI x hox)
        simpa [vIk] using this
      have hvV : v = V x := by
        have h1 := hat (.held nilS)
        rw [H1.out _ hox, hyd] at h1
        simp only [DataW.held.injEq] at h1
        exact h1.symm
      have hTne : T x ≠ [] := by
        have := H2.out _ hox
        rw [hhas] at this
        intro h; rw [h] at this; cases this
      have hb := HT.out _ hTne
      obtain ⟨a, ha⟩ : ∃ a : Ek, hk a = x := ⟨⟨x.toNat, by omega⟩, by unfold hk; simp; omega⟩
      obtain ⟨ao, cp, hvs⟩ := (HV.out x hox).form
      obtain ⟨m, hm⟩ : ∃ m, m = (T x).length := ⟨_, rfl⟩
      rw [← hm] at hvs
      have HVS : Hid (V x = .slice ao m cp) := hvs
      rw [hvs] at hvV
      subst hvV
      have hvq : vIk q = .int .i64 x := by rw [← hqx]; rfl
      rw [hvq] at hen ⊢
      have HRG3 : Hid (w3.ranges Tryz.prog 3 rawR Hb r 4000 D (fun z => left z && !z.sameKey (kI x)) cnt3) := hrg3
      have HG3 := (show Hid _ from hg3)
      have HLK : Hid (left (kI x) = true) := hlk
      have hws : w.heap.size ≤ w3.heap.size := by rw [hs3]; exact HI.out.bl.size
      have HLT : Hid (cnt3 < cnt) := hlt
      have hu5w : OwnR w3 w.heap.size 67 2 u3 L.length (L.flatMap (encE V)) := HI.out.ls.other (fun g hg hgl => HG3.out.block g hgl (fun e => (ranges_blocks HI.out.rg HI.out.ls).2 (by rw [hg]; exact e)))
      have hLl : L.length + 1 ≤ 4000 := by have := HI.out.cn; omega
      clear hrg3 hg3 hs3 hkey hlk hv hat hyd hhas hvs hvq hlt hm
      go_wp2_with (at_builtin; refine wpList_own _ rfl (.tmp 22) (.tmp 26) 64 rfl 67 i0 _ 2 32 Tryz.underlying64 hi hz0 hz1 hz2 rfl (by decide) w.heap.size u3 L.length (L.flatMap (encE V)) rfl (hu5w.other (fun g _ hg => Below.heap_alloc w3 _ g hg)) ⟨w3.heap.size, 0, none⟩ 1 [.int .i64 x, .slice ao m cp] rfl rfl (ebox_cells w3 _ _ _ rfl) (by intro u hu; simp at hu; rcases hu with rfl | rfl <;> rfl) (by unfold maxLen; omega) (by omega) (by simp; omega) ?_; intro g' o' cap' w7 hown7 hfr7)
      have hk7 : ∀ j, j < w3.heap.size → u3.ownBlock ≠ some j → w7.heap[j]? = w3.heap[j]? := fun j hj hne => (hfr7.other j (by simp; omega) hne).trans (Below.heap_alloc w3 _ j hj)
      have hs7 : w3.heap.size + 1 ≤ w7.heap.size := by have := hfr7.size; simp at this; exact this
      have hubl : ∀ g, u3.ownBlock = some g → w.heap.size ≤ g ∧ g < w3.heap.size := fun g hg => hu5w.lt hg
      have hrb := ranges_blocks HRG3.out hu5w
      have hrlt := HRG3.out.lt
      have hrg7 := ranges_at HRG3.out (hk7 Hb (by omega) hrb.1) (hk7 r hrlt hrb.2)
      have haL : a ∉ L := fun h => by
        have := ((HI.out.mem a).1 h).2
        rw [ha, HLK.out] at this
        cases this
      refine ⟨⟨fun z => left z && !z.sameKey (kI x), cnt3, L ++ [a], hrg7, ?_, by simp [Value.ownBlock], ?_, ?_, ?_, ?_, HI.out.lw⟩, ?_⟩
      · rw [List.flatMap_append, List.length_append]
        have e1 : ([a] : List Ek).flatMap (encE V) = [.int .i64 x, .slice ao m cp] := by
          simp only [List.flatMap_cons, List.flatMap_nil, List.append_nil, encE, ha, HVS.out]
        rw [e1]
        exact hown7
      · rw [List.nodup_append]
        refine ⟨HI.out.nd, by simp, fun y hy z hz => ?_⟩
        simp at hz
        subst hz
        exact fun e => haL (e ▸ hy)
      · intro b
        by_cases hb : b = a
        · subst hb
          constructor
          · intro _
            refine ⟨by rw [ha]; exact hTne, ?_⟩
            rw [ha, WideAt.sameKey_self (lawI.key (keyI _ hox))]
            simp
          · intro _; simp
        · have h1 : (kI (hk b)).sameKey (kI x) = false := Maps.sameKey_ne (fun e => hb (hk_inj b a ((kI_inj _ _ (hk_ok b) hox e).trans ha.symm)))
          rw [h1]
          simp only [Bool.not_false, Bool.and_true, List.mem_append, List.mem_singleton, hb, or_false]
          exact HI.out.mem b
      · refine ⟨?_, ?_, ?_, by omega, fun g hg => ?_⟩
        · exact hfr7.os.trans (HG3.out.os.trans HI.out.bl.os)
        · exact hfr7.tape.trans (HG3.out.tape.trans HI.out.bl.tape)
        · exact hfr7.output.trans (HG3.out.output.trans HI.out.bl.output)
        · rw [hk7 g (by omega) (fun e => by have := (hubl g e).1; omega), HG3.out.block g (Nat.lt_of_lt_of_le hg HI.out.bl.size) (fun e => by have := HI.out.lw; simp at e; omega)]
          exact HI.out.bl.block g hg
      · have := HI.out.cn
        have := HLT.out
        simp only [List.length_append, List.length_singleton]
        omega
      · rw [hrg7.left_eq, HI.out.rg.left_eq]
        exact HLT.out
end Go.Proofs.YtilcmkiihefkkabGreatDoor.Mn
end
section
set_option linter.unusedVariables false
set_option linter.unusedSimpArgs false
set_option maxRecDepth 100000
namespace Go.Proofs.YtilcmkiihefkkabGreatDoor.Mn
open Go.RowKit Go.Maps
theorem flat_take_len {α β : Type} (f : α → List β) : ∀ (L : List α) (j : Nat), ((L.take j).flatMap f).length ≤ (L.flatMap f).length
  | [], j => by simp
  | x :: t, 0 => by simp
  | x :: t, j + 1 => by
    have := flat_take_len f t j
    simp only [List.take_succ_cons, List.flatMap_cons, List.length_append]
    omega
theorem hitsB_len (T : List W3) : (hitsB T).length = 2 + 4 * T.length := by unfold hitsB; rw [List.length_append, wrB_len, hitsF_len]
theorem entB_len (T : Int → List W3) (hT : ∀ h, (T h).length ≤ 4000) : ∀ (H : List Int) (last : Int), (entB T last H).length ≤ H.length * 20000
  | [], _ => by simp [entB]
  | h :: t, last => by
    have := entB_len T hT t h
    have h1 := hT h
    simp only [entB, List.length_append, wrB_len, hitsB_len, List.length_cons]
    omega
theorem take_last (E : List Int) (j : Nat) (hj : j < E.length) : (E.take (j + 1)).getLastD 0 = E[j] := by
  have e : E.take (j + 1) = E.take j ++ [E[j]] := by rw [List.take_add_one, List.getElem?_eq_getElem hj]; rfl
  rw [e, List.getLastD_eq_getLast?, List.getLast?_concat]
  rfl
theorem entB_take (T : Int → List W3) (E : List Int) (j : Nat) (hj : j < E.length) : entB T 0 (E.take (j + 1)) = entB T 0 (E.take j) ++ (wrB (E[j] - (E.take j).getLastD 0).toNat 3 ++ hitsB (T E[j])) := by
  rw [List.take_add_one, List.getElem?_eq_getElem hj]
  exact entB_app T (E.take j) 0 E[j]
theorem tab_hash {k W : Nat} (hk1 : 1 ≤ k) (hk2 : k ≤ 12) (hW : 1 ≤ W) (R : List S2) (hR : ∀ x ∈ R, good x.b) (h : Int) (hne : tabN k W R R.length h ≠ []) : 0 ≤ h ∧ h < 16777216 := by
  obtain ⟨z, hz⟩ := List.exists_mem_of_ne_nil _ hne
  obtain ⟨i, hi, y, hy, rfl, _⟩ := tab_mem k W R R.length h z hz
  have := wds_ok hk1 hk2 hW (hR _ (by rw [getD_get _ _ _ hi]; exact List.getElem_mem _)) hy
  exact ⟨this.1, this.2.1⟩
theorem tab_small {k W : Nat} (hk1 : 1 ≤ k) (hk2 : k ≤ 12) (hW : 1 ≤ W) (R : List S2) (hR : ∀ x ∈ R, good x.b) (hs : sumN R R.length ≤ 4000) (hl : R.length < 100000) (h : Int) : ∀ y ∈ tabN k W R R.length h, 0 ≤ y.h ∧ y.h < 100000 ∧ 0 ≤ y.p ∧ y.p < 100000 := by
  intro z hz
  obtain ⟨i, hi, y, hy, _, rfl⟩ := tab_mem k W R R.length h z hz
  have h1 := wds_ok hk1 hk2 hW (hR _ (by rw [getD_get _ _ _ hi]; exact List.getElem_mem _)) hy
  have h2 := sumN_mono R (i + 1) R.length hi
  have e : sumN R (i + 1) = sumN R i + (R.getD i S0).b.size := rfl
  refine ⟨by show (0 : Int) ≤ (i : Nat); omega, by show ((i : Nat) : Int) < 100000; omega, h1.2.2.1, ?_⟩
  show y.p < 100000
  omega
/-- the hash before is not greater -/
theorem last_le (T : Int → List W3) (H : List Int) (hH : HsP T H) (hb : ∀ h, T h ≠ [] → 0 ≤ h ∧ h < 16777216) (j : Nat) (hj : j < H.length) : 0 ≤ (H.take j).getLastD 0 ∧ (H.take j).getLastD 0 ≤ H[j] ∧ H[j] < 16777216 := by
  have h1 := hb H[j] ((hH.2 _).1 (List.getElem_mem _))
  cases j with
  | zero => simp; exact h1
  | succ i =>
    rw [take_last H i (by omega)]
    have h2 := hb H[i] ((hH.2 _).1 (List.getElem_mem _))
    have := List.pairwise_iff_getElem.1 hH.1 i (i + 1) (by omega) hj (by omega)
    exact ⟨h2.1, by omega, h1.2⟩
theorem entry_cells (V : Int → Value) (E : List Ek) (g o : Nat) (cur : Array Value) (w : World) (hg : w.heap[g]? = some (.cells cur 67 (0, 0))) (hc : ∀ j u, (E.flatMap (encE V))[j]? = some u → cur[o + j]? = some u) (j : Nat) (hj : j < E.length) :
    w.cell? ⟨g, o + j * 2, none⟩ = some (.int .i64 (hk E[j])) ∧ w.cell? ⟨g, o + j * 2 + 1, none⟩ = some (V (hk E[j])) := by
  have h0 := fm_get (enc := encE V) (k := 2) (fun _ => rfl) E j 0 hj (by omega)
  have h1 := fm_get (enc := encE V) (k := 2) (fun _ => rfl) E j 1 hj (by omega)
  exact ⟨cell_at hg (hc _ _ (h0.trans rfl)), cell_at hg (hc _ _ (h1.trans rfl))⟩
end Go.Proofs.YtilcmkiihefkkabGreatDoor.Mn
end
