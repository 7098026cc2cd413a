import Derived.Test.YtilcmkiihefkkaaGreatDoorJt32
import Derived.Test.YtilcmkiihefkkaaGreatDoorJt43
import Derived.Test.YtilcmkiihefkkaaGreatDoorJt46
section
set_option linter.unusedVariables false
set_option linter.unusedSimpArgs false
set_option maxRecDepth 100000
namespace Go.Proofs.YtilcmkiihefkkaaGreatDoor.Mn
open Go.RowKit Go.Shelf Go.Lib
attribute [local go_sem] run_store_flt
theorem ex_parse : parseR ⟨(ofL 97 exS).toArray⟩ = (exR, 0, 0) := parse_of 97 exS ex_good (by decide) (by decide) (by decide)
theorem ex_parse2 : parseR ⟨(ofL 114 exS).toArray⟩ = ([⟨⟨#[114]⟩, exS⟩], 0, 0) := parse_of 114 exS ex_good (by decide) (by decide) (by decide)
theorem ex_opt : optB 5 2 0 = true := by decide +kernel
theorem ex_new : newR ⟨(ofL 97 exS).toArray⟩ 5 2 0 = (0, 0) := by
  unfold newR
  rw [if_pos ex_opt, ex_parse, if_pos rfl]
  rfl
/-- the first of the founds, as it lies -/
theorem found0 {w : World} {base : Nat} {v : Value} {f : FD} (h : OwnR w base 71 13 v 1 (foundsC [f])) : ∃ g o cp, v = .slice (some ⟨g, o, none⟩) 1 cp ∧ g < w.heap.size ∧ base ≤ g ∧ ∀ j u, f.cells[j]? = some u → w.cell? ⟨g, o + j, none⟩ = some u := by
  rcases h.2 with ⟨_, h0⟩ | ⟨g, o, cap, cur, hv, hb, hg, _, _, _, hc⟩
  · cases h0
  · refine ⟨g, o, cap, hv, lt_of_block hg, hb, fun j u hj => cell_at hg (hc j u ?_)⟩
    simpa [foundsC] using hj
set_option maxHeartbeats 8000000 in
theorem finds_any (w : World) (htab : Lib.TabBelow Tryz.prog w.heap.size w "internal/strconv.uint64pow10" .u64 Lib.pow10Tab) (hLt : LtP w) :
    Calls Tryz.prog 15 #[] w fun e w' => e = .returned (.bool true) ∧ Below w.heap.size w w' := by
  have cA := fun W => of_any 97 exS W (by decide)
  have cR := fun W => of_any 114 exS W (by decide)
  have cN : ∀ W : World, Calls Tryz.prog 18 #[.string ⟨(ofL 97 exS).toArray⟩, .agg #[.int .i64 5, .int .i64 2, .float .f64 0]] W fun e w' => ∃ X, e = .returned (.tuple #[.pointer (some ⟨X, 0, none⟩), .int .i64 0, .int .i64 0]) ∧ Below W.heap.size W w' ∧ IxP w' W.heap.size X exR 5 2 0 := by
    intro W
    refine (New_any ⟨(ofL 97 exS).toArray⟩ 5 2 0 W (by decide)).mono ?_
    rintro e w' ⟨v, rfl, hb, _, h⟩
    rw [ex_new] at h ⊢
    obtain ⟨X, rfl, hI, _⟩ := h rfl
    rw [ex_parse] at hI
    exact ⟨X, rfl, hb, hI⟩
  have hRO : RefsOK exR := by
    have h := parse_refs ⟨(ofL 97 exS).toArray⟩ (by rw [ex_parse]; decide)
    rw [ex_parse] at h
    exact h
  have cM : ∀ (W : World) (base X : Nat), Below w.heap.size w W → IxP W base X exR 5 2 0 → Calls Tryz.prog 21 #[.pointer (some ⟨X, 0, none⟩), .string ⟨(ofL 114 exS).toArray⟩] W fun e w' =>
      ∃ g o cp, e = .returned (.tuple #[.slice (some ⟨g, o, none⟩) 1 cp, .int .i64 0, .int .i64 0]) ∧ Below W.heap.size W w' ∧ w'.cell? ⟨g, o, none⟩ = some (.string ⟨#[114]⟩) ∧ w'.cell? ⟨g, o + 1, none⟩ = some (.int .i64 0) ∧ w'.cell? ⟨g, o + 2, none⟩ = some (.int .i64 27) ∧ w'.cell? ⟨g, o + 3, none⟩ = some (.bool false) ∧ w'.cell? ⟨g, o + 4, none⟩ = some (.string ⟨#[97]⟩) ∧ w'.cell? ⟨g, o + 5, none⟩ = some (.int .i64 0) ∧ w'.cell? ⟨g, o + 11, none⟩ = some (.int .i64 27) ∧ w'.cell? ⟨g, o + 12, none⟩ = some (.float .f64 4607182418800017408) := by
    intro W base X hb hI
    refine (Map_any exR base X 5 2 0 _ W (by decide) (by omega) (by omega) (by omega) (by omega) hRO hI (tabOnM htab hb) (hLt.below hb)).mono ?_
    rintro e w' ⟨v, rfl, hbM, _, h⟩
    rw [ex_parse2] at h ⊢
    obtain ⟨rs, hl, hF, hO⟩ := h rfl
    have hl1 : rs.length = 1 := hl
    obtain ⟨r, rfl⟩ : ∃ r, rs = [r] := by
      match rs, hl1 with
      | [r], _ => exact ⟨r, rfl⟩
    have hr := hF 0 (by simp)
    obtain ⟨ql, sc, e0⟩ := ex_find r hr
    subst e0
    obtain ⟨g, o, cp, rfl, _, _, hc⟩ := found0 hO
    exact ⟨g, o, cp, rfl, hbM, hc 0 _ rfl, hc 1 _ rfl, hc 2 _ rfl, hc 3 _ rfl, hc 4 _ rfl, hc 5 _ rfl, hc 11 _ rfl, hc 12 _ rfl⟩
  generalize (⟨(ofL 97 exS).toArray⟩ : ByteArray) = ta at cA cN
  generalize (⟨(ofL 114 exS).toArray⟩ : ByteArray) = tr at cR cM
  have HA := (show Hid _ from cA)
  have HN := (show Hid _ from cN)
  have HR := (show Hid _ from cR)
  have HM := (show Hid _ from cM)
  clear cA cN cR cM hRO htab hLt
  have hord : (FloatKind.f64.format.order 4607182418800017408 4607182418800017408 == some Ordering.eq) = true := by decide +kernel
  go_enter Tryz.func15, Tryz.ntmps15
  go_wp2_with fail
  refine (HA.out w).mono ?_
  rintro e w1 ⟨rfl, hb1⟩
  have HB1 : Hid (Below w.heap.size w w1) := hb1
  clear hb1 HA
  go_wp2_with fail
  refine (HN.out w1).mono ?_
  rintro e w2 ⟨X, rfl, hb2, hI⟩
  have HB2 : Hid (Below w.heap.size w w2) := HB1.out.trans (hb2.mono HB1.out.size)
  have HI : Hid (IxP w2 w1.heap.size X exR 5 2 0) := hI
  clear hb2 HN hI HB1
  go_wp2_with fail
  refine (HR.out w2).mono ?_
  rintro e w3 ⟨rfl, hb3⟩
  have HB3 : Hid (Below w.heap.size w w3) := HB2.out.trans (hb3.mono HB2.out.size)
  have HI3 : Hid (IxP w3 w1.heap.size X exR 5 2 0) := HI.out.kept (fun g hg => hb3.block g hg)
  clear hb3 HR HI HB2
  go_wp2_with fail
  refine (HM.out w3 _ X HB3.out HI3.out).mono ?_
  rintro e w4 ⟨g, o, cp, rfl, hb4, d0, d1, d2, d3, d4, d5, d11, d12⟩
  have HB4 : Hid (Below w.heap.size w w4) := HB3.out.trans (hb4.mono HB3.out.size)
  clear hb4 HM HI3 HB3
  go_wp2_with fail
  rename_i K6 hK6
  have hsub : IntKind.i64.wrap ((27 : Int) - 0) = 27 := by decide
  refine wp_region_X 70 (fun W => W.cell? ⟨g, o, none⟩ = some (.string ⟨#[114]⟩) ∧ W.cell? ⟨g, o + 1, none⟩ = some (.int .i64 0) ∧ W.cell? ⟨g, o + 2, none⟩ = some (.int .i64 27) ∧ W.cell? ⟨g, o + 3, none⟩ = some (.bool false) ∧ W.cell? ⟨g, o + 4, none⟩ = some (.string ⟨#[97]⟩) ∧ W.cell? ⟨g, o + 5, none⟩ = some (.int .i64 0) ∧ W.cell? ⟨g, o + 11, none⟩ = some (.int .i64 27) ∧ W.cell? ⟨g, o + 12, none⟩ = some (.float .f64 4607182418800017408)) (by kernel_rfl) ⟨d0, d1, d2, d3, d4, d5, d11, d12⟩ (fun hH => ?_)
  refine wpZ 0 hH ?_
  refine wpZ 1 hH ?_
  refine wpZ 2 hH ?_
  refine wpZ 3 hH ?_
  refine wpZ 4 hH ?_
  refine wpZ 5 hH ?_
  refine wpZ 6 hH ?_
  refine wpZ 7 hH ?_
  refine wpZ 8 hH ?_
  refine wpZ 9 hH ?_
  refine wpZ 10 hH ?_
  refine wpZ 11 hH ?_
  refine wpZ 12 hH ?_
  refine wpZ 13 hH ?_
  refine wpZ 14 hH ?_
  refine wpZ 15 hH ?_
  refine wpZ 16 hH ?_
  refine wpZ 17 hH ?_
  refine wpZ 18 hH ?_
  refine wpZ 19 hH ?_
  refine wpZ 20 hH ?_
  refine wpZ 21 hH ?_
  refine wpZ 22 hH ?_
  refine wpZ 23 hH ?_
  refine wpZ 24 hH ?_
  refine wpZ 25 hH ?_
  refine wpZ 26 hH ?_
  refine wpZ 27 hH ?_
  refine wpZ 28 hH ?_
  refine wpZ 29 hH ?_
  refine wpZ 30 hH ?_
  refine wpZ 31 hH ?_
  refine wpZ 32 hH ?_
  refine wpZ 33 hH ?_
  refine wpZ 34 hH ?_
  refine wpZ 35 hH ?_
  refine wpZ 36 hH ?_
  refine wpZ 37 hH ?_
  refine wpZ 38 hH ?_
  refine wpZ 39 hH ?_
  refine wpZ 40 hH ?_
  refine wpZ 41 hH ?_
  refine wpZ 42 hH ?_
  refine wpZ 43 hH ?_
  refine wpZ 44 hH ?_
  refine wpZ 45 hH ?_
  refine wpZ 46 hH ?_
  refine wpZ 47 hH ?_
  refine wpZ 48 hH ?_
  refine wpZ 49 hH ?_
  refine wpZ 50 hH ?_
  refine wpZ 51 hH ?_
  refine wpZ 52 hH ?_
  refine wpZ 53 hH ?_
  refine wpZ 54 hH ?_
  refine wpZ 55 hH ?_
  refine wpZ 56 hH ?_
  refine wpZ 57 hH ?_
  refine wpZ 58 hH ?_
  refine wpZ 59 hH ?_
  refine wpZ 60 hH ?_
  refine wpZ 61 hH ?_
  refine wpZ 62 hH ?_
  refine wpZ 63 hH ?_
  refine wpZ 64 hH ?_
  refine wpZ 65 hH ?_
  refine wpZ 66 hH ?_
  refine wpZ 67 hH ?_
  refine wpZ 68 hH ?_
  refine wpZ 69 hH ?_
  refine wpAnyX_done (by kernel_rfl) ?_
  refine hK6 _ _ ?_
  clear hK6 hH
  go_wp2_with fail
  go_ret
  exact ⟨rfl, HB4.out.trans ⟨rfl, rfl, rfl, Nat.le_refl _, fun _ _ => rfl⟩⟩
end Go.Proofs.YtilcmkiihefkkaaGreatDoor.Mn
end
section
set_option linter.unusedVariables false
set_option linter.unusedSimpArgs false
set_option maxRecDepth 100000
namespace Go.Proofs.YtilcmkiihefkkaaGreatDoor.Mn
open Go.RowKit Go.Shelf Go.Lib
theorem cmp_nlt (a b : Int) (h : ¬ a < b) : (some (compare a b) == some Ordering.lt) = false := by
  simp only [compare, compareOfLessAndEq, if_neg h]; split <;> rfl
theorem cmp_ngt (a b : Int) (h : a ≤ b) : (some (compare a b) == some Ordering.gt) = false := by
  simp only [compare, compareOfLessAndEq]
  by_cases h1 : a < b
  · rw [if_pos h1]; rfl
  · have h2 : a = b := by omega
    rw [if_neg h1, if_pos h2]; rfl
end Go.Proofs.YtilcmkiihefkkaaGreatDoor.Mn
end
section
set_option linter.unusedVariables false
set_option linter.unusedSimpArgs false
set_option maxRecDepth 100000
namespace Go.Proofs.YtilcmkiihefkkaaGreatDoor.Mn
open Go.RowKit
theorem ba_eq {a b : ByteArray} (h : a.data.toList = b.data.toList) : a = b := by
  apply ByteArray.ext
  exact Array.toList_inj.1 h
theorem seg_bytes (l : List UInt8) (hg : ∀ c ∈ l, 0 ≤ numb c) (p k : Nat) : (l.drop p).take k = (seg (nums l) p k).map letB := by
  unfold seg nums
  rw [← List.map_drop, ← List.map_take, List.map_map]
  have : ∀ c ∈ (l.drop p).take k, (letB ∘ fun c => (numb c).toNat) c = c := fun c hc => letB_numb c (hg c (List.mem_of_mem_drop (List.mem_of_mem_take hc)))
  rw [List.map_congr_left this]
  simp
theorem turn_cut (l : List UInt8) (a b : Nat) (h : a + b ≤ l.length) : turnL ((l.drop a).take b) = ((turnL l).drop (l.length - a - b)).take b := by
  unfold turnL
  rw [List.map_take, List.map_drop]
  generalize hm : l.map (fun c => pbyte (numb c).toNat) = m
  have hl : m.length = l.length := by rw [← hm]; simp
  rw [List.drop_reverse, List.take_reverse, hl]
  congr 1
  rw [List.drop_take, List.length_take]
  have e1 : l.length - (l.length - a - b) = a + b := by omega
  have e2 : min (a + b) m.length - b = a := by omega
  rw [e1, e2]
  congr 1
  omega
theorem turn_mem_good (l : List UInt8) : ∀ c ∈ turnL l, 0 ≤ numb c := by
  intro c hc
  unfold turnL at hc
  rw [List.mem_reverse] at hc
  obtain ⟨x, _, rfl⟩ := List.mem_map.1 hc
  have h5 : (numb x).toNat < 5 := by have := numb_lt x; omega
  exact (numb_pbyte _ h5).2
/-- what is told of a read that is found -/
structure Told (R : List S2) (k sc : Nat) (rn rb : ByteArray) (f : FD) (i : Nat) (back : Bool) (r0 p0 r1 p1 : Nat) (sq oq : Int) : Prop where
  ii : i < R.length
  fe : f = fdOf k rn rb (R.getD i S0).n (R.getD i S0).b back r0 p0 r1 p1 sq oq
  le0 : r0 ≤ r1
  le1 : p0 ≤ p1
  b0 : r1 + k ≤ rb.size
  b1 : p1 + k ≤ (R.getD i S0).b.size
  s0 : ((if back = true then turnL rb.data.toList else rb.data.toList).drop r0).take k = ((R.getD i S0).b.data.toList.drop p0).take k
  s1 : ((if back = true then turnL rb.data.toList else rb.data.toList).drop r1).take k = ((R.getD i S0).b.data.toList.drop p1).take k
  ok : fnE k rb (R.getD i S0).b back r0 p0 r1 p1 = 0
  lo : 4 * (k : Int) ≤ sq
  hi : sq ≤ 100000
  o0 : 0 ≤ oq
  o1 : oq ≤ sq
  sc : FloatKind.f64.format.order (fq sq) sc ≠ some .lt
  rs : rb.size ≤ 300
theorem find_told (R : List S2) (k W sc : Nat) (rn rb : ByteArray) (f : FD) (hk1 : 1 ≤ k) (hk2 : k ≤ 12) (hW : 1 ≤ W) (hR : RefsOK R) (hg : good rb) (h : FindR R k W sc rn rb (some f)) :
    ∃ i back r0 p0 r1 p1 sq oq, Told R k sc rn rb f i back r0 p0 r1 p1 sq oq := by
  rcases h with ⟨_, h⟩ | ⟨_, _, h⟩ | ⟨hrb, hcnt, C, hC, hf⟩
  · cases h
  · cases h
  · cases C with
    | nil => cases hf
    | cons a t =>
      have hne := (hC.2 a).1 (List.mem_cons_self)
      have hlen : ((gat k W R rb).2 (sd a)).length ≤ 400 := by
        have key : ∀ (L : List W3) (st : Nat × (Int × Bool → List (Int × Int))), (∀ q, (st.2 q).length ≤ st.1) → ∀ q, ((L.foldl (gatW rb.size k (tabN k W R R.length)) st).2 q).length ≤ (L.foldl (gatW rb.size k (tabN k W R R.length)) st).1 := by
          intro L
          induction L with
          | nil => intro st h; exact h
          | cons x t ih =>
            intro st h
            refine ih _ ?_
            intro q
            unfold gatW
            split
            · exact Nat.le_trans (h q) (Nat.le_add_right _ _)
            · have inner : ∀ (M : List W3) (A : Int × Bool → List (Int × Int)) (n : Nat), (∀ q, (A q).length ≤ n) → ∀ q, ((M.foldl (fun A y => gatA rb.size k A x y) A) q).length ≤ n + M.length := by
                intro M
                induction M with
                | nil => intro A n h q; exact h q
                | cons y u ihu =>
                  intro A n h q
                  have := ihu (gatA rb.size k A x y) (n + 1) (gatA_len _ _ A x y n h) q
                  simp only [List.foldl_cons, List.length_cons]
                  omega
              exact inner _ _ _ h q
        have h1 := key (wds k W rb) (0, fun _ => []) (fun _ => Nat.le_refl _) (sd a)
        exact Nat.le_trans h1 hcnt
      obtain ⟨r0, p0, r1, p1, hF⟩ := cand_facts k W R rb (sd a) hk1 hk2 hW (fun x hx => ⟨(hR.1 x hx).1, (hR.1 x hx).2.2.2⟩) hg hrb hne hlen
      have hi : a.1.val < R.length := hF.qi
      have eQ : ansQ ((gat k W R rb).2 (sd a)) k = chQ k ((gat k W R rb).2 (sd a)) := by unfold ansQ; rw [if_pos hF.err]
      unfold findC at hf
      dsimp only at hf
      rw [hF.e0, hF.e1] at hf
      by_cases hlt : FloatKind.f64.format.order (fq (ansQ ((gat k W R rb).2 (sd a)) k)) sc = some .lt
      · rw [if_pos hlt] at hf; cases hf
      · rw [if_neg hlt] at hf
        by_cases hz : fnE k rb (R.getD a.1.val S0).b a.2 (((r0 : Int), (p0 : Int)) : Int × Int).1.toNat (((r0 : Int), (p0 : Int)) : Int × Int).2.toNat (((r1 : Int), (p1 : Int)) : Int × Int).1.toNat (((r1 : Int), (p1 : Int)) : Int × Int).2.toNat = 0
        · rw [if_pos hz] at hf
          have gX : ∀ c ∈ (if a.2 = true then turnL rb.data.toList else rb.data.toList), 0 ≤ numb c := by
            split
            · exact turn_mem_good _
            · exact good_list hg
          have gR : ∀ c ∈ (R.getD a.1.val S0).b.data.toList, 0 ≤ numb c := good_list (hR.1 _ (getD_mem R _ hi)).1
          refine ⟨a.1.val, a.2, r0, p0, r1, p1, ansQ ((gat k W R rb).2 (sd a)) k, othQ (gat k W R rb).2 k (a :: t), ?_⟩
          exact {
            ii := hi
            fe := (Option.some.inj hf)
            le0 := hF.le0, le1 := hF.le1, b0 := hF.b0, b1 := hF.b1
            s0 := by rw [seg_bytes _ gX, seg_bytes _ gR]; exact congrArg _ hF.s0
            s1 := by rw [seg_bytes _ gX, seg_bytes _ gR]; exact congrArg _ hF.s1
            ok := hz
            lo := by rw [eQ]; exact hF.lo
            hi := by rw [eQ]; exact hF.hi
            o0 := by
              cases t with
              | nil => exact Int.le_refl _
              | cons b t' => exact (ansQ_bd _ _).1
            o1 := by
              cases t with
              | nil => exact (ansQ_bd _ _).1
              | cons b t' =>
                have hab : ltC (fun q => ansQ ((gat k W R rb).2 q) k) a b := (List.pairwise_cons.1 hC.1).1 b (List.mem_cons_self)
                unfold ltC at hab
                dsimp only at hab
                show ansQ ((gat k W R rb).2 (sd b)) k ≤ _
                omega
            sc := hlt
            rs := hrb }
        · rw [if_neg hz] at hf; cases hf
end Go.Proofs.YtilcmkiihefkkaaGreatDoor.Mn
end
section
set_option linter.unusedVariables false
set_option linter.unusedSimpArgs false
set_option maxRecDepth 100000
namespace Go.Proofs.YtilcmkiihefkkaaGreatDoor.Mn
open Go.RowKit Go.Shelf Go.Lib
attribute [local go_sem] run_store_flt
set_option maxHeartbeats 8000000 in
theorem checked_ff (rd ra rb pc pl : ByteArray) (fr tl st en k W sc g o cp : Nat) (sq oq : Int) (w : World)
    (hra : w.cell? ⟨g, o, none⟩ = some (.string ra)) (hrb : w.cell? ⟨g, o + 1, none⟩ = some (.string rb))
    (hpc : pc = rd.extract fr tl) (hpl : pl = ra.extract st en)
    (h1 : fr + k ≤ tl) (h2 : tl ≤ rd.size) (h2b : rd.size ≤ 300) (h3 : st + k ≤ en) (h4 : en ≤ ra.size) (h5 : ra.size ≤ 600) (hk1 : 1 ≤ k) (hk2 : k ≤ 12)
    (hw0 : pc.extract 0 k = pl.extract 0 k) (hw1 : pc.extract (pc.size - k) pc.size = pl.extract (pl.size - k) pl.size) (hps : pc.size = tl - fr)
    (gp : _root_.Go.Proofs.YtilcmkiihefkkaaGreatDoor.good pc) (gl : _root_.Go.Proofs.YtilcmkiihefkkaaGreatDoor.good pl)
    (hsc : FloatKind.f64.format.order (fq sq) sc ≠ some .lt) (hq1 : 4 * (k : Int) ≤ sq) (hq2 : sq ≤ 100000) (hq3 : 0 ≤ oq) (hq4 : oq ≤ sq)
    (htab : Lib.TabBelow Tryz.prog w.heap.size w "internal/strconv.uint64pow10" .u64 Lib.pow10Tab) :
    Calls Tryz.prog 22 #[.agg #[.string ⟨#[114]⟩, .int .i64 fr, .int .i64 tl, .bool false, .string ⟨#[97]⟩, .int .i64 st, .int .i64 en, .float .f64 (fq sq), .float .f64 (fq oq), .int .i64 (qual sq oq), .string ⟨(scT pc.data.toList pl.data.toList).toArray⟩, .int .i64 (scN pc.data.toList pl.data.toList : Nat), .float .f64 (shr (scN pc.data.toList pl.data.toList) (scLn pc.data.toList pl.data.toList))], .string rd, .slice (some ⟨g, o, none⟩) 2 cp, .agg #[.int .i64 k, .int .i64 W, .float .f64 sc]] w fun e w' => e = .returned (.bool true) ∧ Below w.heap.size w w' := by
  have hpls : pl.size = en - st := by rw [hpl, ByteArray.size_extract]; omega
  obtain ⟨hE, hT, hN⟩ := scT_fwd gp gl (by omega) (by omega)
  have hok := scLn_ok pc.data.toList pl.data.toList hE
  have hlF : scLn pc.data.toList pl.data.toList = (fwd pc pl).length := by
    have := pth_fwd gp gl (by omega) (by omega)
    unfold scLn
    rw [← List.length_reverse, this]
  have cS := fun (W1 : World) (hw : Below w.heap.size w W1) => pscript_any pc pl W1 (by omega) (by omega) (tabOnM htab hw)
  obtain ⟨la, hpst⟩ := rtxt_pst (fwd pc pl) (fwd_le pc pl) (by have := fwd_len pc pl; omega)
  rw [← hT] at hpst
  have hTl : (scT pc.data.toList pl.data.toList).length ≤ 30 * 900 := by
    have e1 := (scRs_ok pc.data.toList pl.data.toList hE)
    have h1 := rtxt_len (scRs pc.data.toList pl.data.toList) (fun p hp => (e1.2.1 p hp).1)
    have h2 := e1.2.2.1
    have h3 : (scRs pc.data.toList pl.data.toList).length ≤ 900 := Nat.le_trans (rl_len _ _) hok.1
    rw [e1.1]
    omega
  have cL := fun W1 => lletters_any ⟨(scT pc.data.toList pl.data.toList).toArray⟩ (fwd pc pl) la (by show (scT pc.data.toList pl.data.toList).toArray.size ≤ _; rw [List.size_toArray]; omega) (by simpa using hpst) W1
  have cC := fun W1 => lcost_any (fwd pc pl) pc pl (fwd_le pc pl) (by have := fwd_len pc pl; omega) (by omega) (by omega) (fwd_end pc pl (by omega) (by omega)) W1
  have hFs : (lets (fwd pc pl)).size = (fwd pc pl).length := lets_size _
  have hsh := shr_facts (scN pc.data.toList pl.data.toList) (scLn pc.data.toList pl.data.toList) hok.2.2.1 (by have := hok.2.1; have : pc.data.toList.length = pc.size := Array.length_toList; omega) (by omega)
  obtain ⟨A, B, Q, hA, hB, hQ, _, hi, hql1, hql2, ho1, ho2⟩ := qual_facts sq oq hq3 hq4 (by omega) hq2
  rw [fq4] at hB
  rw [fq240] at hQ
  rw [hE] at cS
  rw [hN] at hsh cS ⊢
  rw [hlF] at hsh ⊢
  unfold CoP at cC
  unfold LeP at cL
  have p50 : (1048576 : Nat) ≤ 2 ^ 50 := by decide
  have p53 : (1048576 : Nat) ≤ 2 ^ 53 := by decide
  have hNl : cntF (sR pc pl) (fwd pc pl) (0, 0) ≤ (fwd pc pl).length := by rw [← hN, ← hlF]; exact hok.2.2.1
  have hLl : (fwd pc pl).length ≤ 900 := by rw [← hlF]; exact hok.1
  have x1 : FloatKind.f64.format.order (fq sq) (fq (4 * (k : Int))) = some (compare sq (4 * (k : Int))) := order_fq _ _ (by omega) (by omega)
  have x2 : FloatKind.f64.format.order (fq oq) (fq 0) = some (compare oq 0) := order_fq _ _ (by omega) (by omega)
  have x3 : FloatKind.f64.format.order (fq oq) (fq sq) = some (compare oq sq) := order_fq _ _ (by omega) (by omega)
  have y1 : (FloatKind.f64.format.order (fq sq) (fq (4 * (k : Int))) == some Ordering.lt) = false := by
    rw [x1]; exact cmp_nlt _ _ (by omega)
  have y2 : (FloatKind.f64.format.order (fq oq) 0 == some Ordering.lt) = false := by
    rw [← fq0, x2]; exact cmp_nlt _ _ (by omega)
  have y3 : (FloatKind.f64.format.order (fq oq) (fq sq) == some Ordering.gt) = false := by
    rw [x3]; exact cmp_ngt _ _ hq4
  have y0 : (FloatKind.f64.format.order (fq sq) sc == some Ordering.lt) = false := by rw [beq_eq_false_iff_ne]; exact hsc
  have f1 : floatOfInt .f64 (k : Int) = fq (4 * (k : Int)) := ofInt_fq k (by omega)
  have f2 : floatOfInt .f64 ((cntF (sR pc pl) (fwd pc pl) (0, 0) : Nat) : Int) = fq (4 * ((cntF (sR pc pl) (fwd pc pl) (0, 0) : Nat) : Int)) := ofInt_fq _ (by omega)
  have f3 : floatOfInt .f64 (((fwd pc pl).length : Nat) : Int) = fq (4 * (((fwd pc pl).length : Nat) : Int)) := ofInt_fq _ (by omega)
  have f4 : floatOfInt .f64 (qual sq oq) = fq (4 * qual sq oq) := ofInt_fq _ (by omega)
  have f5 : floatBits .add .f64 (fq (4 * qual sq oq)) (fq 4) = some (fq (4 * qual sq oq + 4)) := add_fq _ _ (by omega) (by omega) (by omega)
  rw [fq4] at f5
  have q1 : ∀ W t, (binOp .quo t (.float .f64 (fq oq)) (.float .f64 (fq sq))).run Tryz.prog W = .ok (.float .f64 A) W := fun W t => run_float_arith W .quo t .f64 _ _ _ hA
  have q2 : ∀ W t, (binOp .sub t (.float .f64 4607182418800017408) (.float .f64 A)).run Tryz.prog W = .ok (.float .f64 B) W := fun W t => run_float_arith W .sub t .f64 _ _ _ hB
  have q3 : ∀ W t, (binOp .mul t (.float .f64 B) (.float .f64 4633641066610819072)).run Tryz.prog W = .ok (.float .f64 Q) W := fun W t => run_float_arith W .mul t .f64 _ _ _ hQ
  have q5 : ∀ W t, (binOp .add t (.float .f64 (fq (4 * qual sq oq))) (.float .f64 4607182418800017408)).run Tryz.prog W = .ok (.float .f64 (fq (4 * qual sq oq + 4))) W := fun W t => run_float_arith W .add t .f64 _ _ _ f5
  have q6 := fun W t => run_float_arith (P := Tryz.prog) W .quo t .f64 _ _ _ hsh.1
  have z1 : FloatKind.f64.format.order (fq (4 * qual sq oq)) Q = some .lt ∨ FloatKind.f64.format.order (fq (4 * qual sq oq)) Q = some .eq := ho1
  have HZ1 : Hid ((FloatKind.f64.format.order (fq (4 * qual sq oq)) Q == some Ordering.lt || FloatKind.f64.format.order (fq (4 * qual sq oq)) Q == some Ordering.eq) = true) := by
    show _ = true
    rcases z1 with h | h <;> rw [h] <;> rfl
  have z2 : (FloatKind.f64.format.order Q (fq (4 * qual sq oq + 4)) == some Ordering.lt) = true := by
    show (Ieee.double.order _ _ == _) = true; rw [ho2]; rfl
  have z3 : FloatKind.f64.format.order (shr (cntF (sR pc pl) (fwd pc pl) (0, 0)) (fwd pc pl).length) (shr (cntF (sR pc pl) (fwd pc pl) (0, 0)) (fwd pc pl).length) = some .eq := hsh.2
  generalize shr (cntF (sR pc pl) (fwd pc pl) (0, 0)) (fwd pc pl).length = dv at *
  generalize cntF (sR pc pl) (fwd pc pl) (0, 0) = NF at *
  generalize (⟨(scT pc.data.toList pl.data.toList).toArray⟩ : ByteArray) = TT at *
  generalize lets (fwd pc pl) = LF at *
  generalize (fwd pc pl).length = nF at *
  generalize cst (uR pc pl) (fwd pc pl).reverse pc.size pl.size = CF at *
  generalize fq (4 * qual sq oq + 4) = e1 at *
  generalize fq (4 * qual sq oq) = e2 at *
  generalize qual sq oq = ql at *
  generalize fq (4 * (NF : Int)) = e3 at *
  generalize fq (4 * (nF : Int)) = e4 at *
  generalize fq (4 * (k : Int)) = e5 at *
  generalize fq sq = fs at *
  generalize fq oq = fo at *
  have HCS := (show Hid _ from cS)
  have HCL := (show Hid _ from cL)
  have HCC := (show Hid _ from cC)
  clear cS cL cC hpst hTl hok hsh hA hB hQ hi hq1 hq2 hq3 hq4 ho1 ho2 x1 x2 x3 f5 hlF hE hT hN hql1 hql2 gl
  have hgl : g < w.heap.size := block_lt_of_cell hra
  have b0 : ¬ (fr : Int) < 0 := by omega
  have b00 : ¬ (st : Int) < 0 := by omega
  have b1 : IntKind.i64.wrap ((tl : Int) - fr) = (tl : Int) - fr := by rw [IntKind.wrap_i64]; omega
  have b2 : ¬ (tl : Int) - fr < k := by omega
  have b3 : IntKind.i64.wrap ((en : Int) - st) = (en : Int) - st := by rw [IntKind.wrap_i64]; omega
  have b4 : ¬ (en : Int) - st < k := by omega
  have b5 : ¬ (rd.size : Int) < tl := by omega
  have b6 : ¬ (ra.size : Int) < en := by omega
  have b7 : (fr : Int) ≤ tl := by omega
  have b8 : (tl : Int) ≤ rd.size := by omega
  have b9 : (st : Int) ≤ en := by omega
  have b10 : (en : Int) ≤ ra.size := by omega
  go_enter Tryz.func22, Tryz.ntmps22
  go_wp2_with fail
  rw [← hpc, ← hpl]
  rename_i K12 hK12
  have c1 : (k : Int) ≤ pc.size := by omega
  have c2 : (k : Int) ≤ pl.size := by omega
  have c3 : IntKind.i64.wrap ((pc.size : Int) - k) = ((pc.size - k : Nat) : Int) := by rw [IntKind.wrap_i64]; omega
  have c4 : IntKind.i64.wrap ((pl.size : Int) - k) = ((pl.size - k : Nat) : Int) := by rw [IntKind.wrap_i64]; omega
  have c5 : ((pc.size - k : Nat) : Int) ≤ pc.size := by omega
  have c6 : ((pl.size - k : Nat) : Int) ≤ pl.size := by omega
  have c7 : k ≤ pc.size := by omega
  have c8 : k ≤ pl.size := by omega
  have HW0 := (show Hid _ from hw0)
  have HW1 := (show Hid _ from hw1)
  have HPS : Hid (pc.size ≤ 300 ∧ pl.size ≤ 600) := ⟨by omega, by omega⟩
  clear hpc
  clear hpl hps hpls h1 h2 h3 h4 b1 b2 b3 b4 b5 b6 b7 b8 b9 b10
  obtain ⟨wA, hwA⟩ : ∃ W1 : World, W1 = (w.alloc (Obj.cells #[Value.string { data := #[114] }, Value.int IntKind.i64 ↑fr, Value.int IntKind.i64 ↑tl, Value.bool false, Value.string { data := #[97] }, Value.int IntKind.i64 ↑st, Value.int IntKind.i64 ↑en, Value.float FloatKind.f64 fs, Value.float FloatKind.f64 fo, Value.int IntKind.i64 ql, Value.string TT, Value.int IntKind.i64 ↑NF, Value.float FloatKind.f64 dv] 71)).alloc (Obj.cells #[Value.int IntKind.i64 ↑k, Value.int IntKind.i64 ↑W, Value.float FloatKind.f64 sc] 24) := ⟨_, rfl⟩
  rw [← hwA]
  have hbA : Below w.heap.size w wA := by rw [hwA]; exact ((Below.refl _ _).alloc (Nat.le_refl _) _).alloc (by simp) _
  have hsA : wA.heap.size = w.heap.size + 2 := by rw [hwA]; simp
  have hA0 : wA.heap[w.heap.size]? = some (Obj.cells #[Value.string { data := #[114] }, Value.int IntKind.i64 ↑fr, Value.int IntKind.i64 ↑tl, Value.bool false, Value.string { data := #[97] }, Value.int IntKind.i64 ↑st, Value.int IntKind.i64 ↑en, Value.float FloatKind.f64 fs, Value.float FloatKind.f64 fo, Value.int IntKind.i64 ql, Value.string TT, Value.int IntKind.i64 ↑NF, Value.float FloatKind.f64 dv] 71 (0, 0)) := by rw [hwA, Below.heap_alloc _ _ _ (by simp)]; exact heap_alloc_new w _
  have hA1 : wA.heap[w.heap.size + 1]? = some (Obj.cells #[Value.int IntKind.i64 ↑k, Value.int IntKind.i64 ↑W, Value.float FloatKind.f64 sc] 24 (0, 0)) := by rw [hwA]; exact heap_alloc2_new w _ _
  clear hwA hgl hra hrb
  refine wp_region_X 26 (fun W1 => W1.cell? ⟨w.heap.size + 1, 0, none⟩ = some (.int .i64 k)) (by kernel_rfl) (cell_at hA1 rfl) (fun hH => ?_)
  refine wpZ 0 hH ?_
  refine wpZ 1 hH ?_
  refine wpZ 2 hH ?_
  refine wpZ 3 hH ?_
  refine wpZ 4 hH ?_
  refine wpZ 5 hH ?_
  refine wpZ 6 hH ?_
  refine wpZ 7 hH ?_
  refine wpZ 8 hH ?_
  refine wpZ 9 hH ?_
  refine wpZ 10 hH ?_
  refine wpZ 11 hH ?_
  refine wpZ 12 hH ?_
  refine wpZ 13 hH ?_
  refine wpZ 14 hH ?_
  refine wpZ 15 hH ?_
  refine wpZ 16 hH ?_
  refine wpZ 17 hH ?_
  refine wpZ 18 hH ?_
  refine wpZ 19 hH ?_
  refine wpZ 20 hH ?_
  refine wpZ 21 hH ?_
  refine wpZ 22 hH ?_
  refine wpZ 23 hH ?_
  refine wpZ 24 hH ?_
  refine wpZ 25 hH ?_
  refine wpAnyX_done (by kernel_rfl) ?_
  refine hK12 _ _ ?_
  clear hK12 hH
  have v10 : wA.drew.cell? ⟨w.heap.size, 10, none⟩ = some (.string TT) := cell_at (w := wA.drew) hA0 rfl
  go_wp2_with fail
  refine (HCL.out _).mono ?_
  rintro e w1 ⟨rfl, hb1⟩
  have HB1 : Hid (Below wA.heap.size wA w1) := ⟨hb1.os, hb1.tape, hb1.output, hb1.size, hb1.block⟩
  clear hb1 HCL v10
  go_wp2_with fail
  refine (HCC.out _).mono ?_
  rintro e w2 ⟨rfl, hb2⟩
  have HB2 : Hid (Below wA.heap.size wA w2) := HB1.out.trans (hb2.mono HB1.out.size)
  clear hb2 HCC HB1
  go_wp2_with fail
  refine (HCS.out _ (hbA.trans (HB2.out.mono (by omega)))).mono ?_
  rintro e w3 ⟨rfl, hb3⟩
  have HB3 : Hid (Below wA.heap.size wA w3) := HB2.out.trans (hb3.mono HB2.out.size)
  clear hb3 HCS HB2
  have h30 := (HB3.out.block w.heap.size (by omega)).trans hA0
  have h31 := (HB3.out.block (w.heap.size + 1) (by omega)).trans hA1
  have v7 := cell_at h30 (i := 7) rfl
  have v8 := cell_at h30 (i := 8) rfl
  have v9 := cell_at h30 (i := 9) rfl
  have v10 := cell_at h30 (i := 10) rfl
  have v11 := cell_at h30 (i := 11) rfl
  have v12 := cell_at h30 (i := 12) rfl
  have o0 := cell_at h31 (i := 0) rfl
  have o2 := cell_at h31 (i := 2) rfl
  go_wp2_with fail
  go_ret
  exact ⟨congrArg (fun b => Ending.returned (.bool b)) HZ1.out, hbA.trans (HB3.out.mono (by omega))⟩
set_option maxHeartbeats 8000000 in
theorem checked_fb (rd ra rb pc pl : ByteArray) (fr tl st en k W sc g o cp : Nat) (sq oq : Int) (w : World)
    (hra : w.cell? ⟨g, o, none⟩ = some (.string ra)) (hrb : w.cell? ⟨g, o + 1, none⟩ = some (.string rb))
    (hgd : good (rd.extract fr tl)) (hpc : pc = ⟨(turnL (rd.extract fr tl).data.toList).toArray⟩) (hpl : pl = ra.extract st en)
    (h1 : fr + k ≤ tl) (h2 : tl ≤ rd.size) (h2b : rd.size ≤ 300) (h3 : st + k ≤ en) (h4 : en ≤ ra.size) (h5 : ra.size ≤ 600) (hk1 : 1 ≤ k) (hk2 : k ≤ 12)
    (hw0 : pc.extract 0 k = pl.extract 0 k) (hw1 : pc.extract (pc.size - k) pc.size = pl.extract (pl.size - k) pl.size) (hps : pc.size = tl - fr)
    (gp : _root_.Go.Proofs.YtilcmkiihefkkaaGreatDoor.good pc) (gl : _root_.Go.Proofs.YtilcmkiihefkkaaGreatDoor.good pl)
    (hsc : FloatKind.f64.format.order (fq sq) sc ≠ some .lt) (hq1 : 4 * (k : Int) ≤ sq) (hq2 : sq ≤ 100000) (hq3 : 0 ≤ oq) (hq4 : oq ≤ sq)
    (htab : Lib.TabBelow Tryz.prog w.heap.size w "internal/strconv.uint64pow10" .u64 Lib.pow10Tab) :
    Calls Tryz.prog 22 #[.agg #[.string ⟨#[114]⟩, .int .i64 fr, .int .i64 tl, .bool true, .string ⟨#[97]⟩, .int .i64 st, .int .i64 en, .float .f64 (fq sq), .float .f64 (fq oq), .int .i64 (qual sq oq), .string ⟨(scT pc.data.toList pl.data.toList).toArray⟩, .int .i64 (scN pc.data.toList pl.data.toList : Nat), .float .f64 (shr (scN pc.data.toList pl.data.toList) (scLn pc.data.toList pl.data.toList))], .string rd, .slice (some ⟨g, o, none⟩) 2 cp, .agg #[.int .i64 k, .int .i64 W, .float .f64 sc]] w fun e w' => e = .returned (.bool true) ∧ Below w.heap.size w w' := by
  have hpls : pl.size = en - st := by rw [hpl, ByteArray.size_extract]; omega
  obtain ⟨hE, hT, hN⟩ := scT_fwd gp gl (by omega) (by omega)
  have hok := scLn_ok pc.data.toList pl.data.toList hE
  have hlF : scLn pc.data.toList pl.data.toList = (fwd pc pl).length := by
    have := pth_fwd gp gl (by omega) (by omega)
    unfold scLn
    rw [← List.length_reverse, this]
  have cS := fun (W1 : World) (hw : Below w.heap.size w W1) => pscript_any pc pl W1 (by omega) (by omega) (tabOnM htab hw)
  obtain ⟨la, hpst⟩ := rtxt_pst (fwd pc pl) (fwd_le pc pl) (by have := fwd_len pc pl; omega)
  rw [← hT] at hpst
  have hTl : (scT pc.data.toList pl.data.toList).length ≤ 30 * 900 := by
    have e1 := (scRs_ok pc.data.toList pl.data.toList hE)
    have h1 := rtxt_len (scRs pc.data.toList pl.data.toList) (fun p hp => (e1.2.1 p hp).1)
    have h2 := e1.2.2.1
    have h3 : (scRs pc.data.toList pl.data.toList).length ≤ 900 := Nat.le_trans (rl_len _ _) hok.1
    rw [e1.1]
    omega
  have cL := fun W1 => lletters_any ⟨(scT pc.data.toList pl.data.toList).toArray⟩ (fwd pc pl) la (by show (scT pc.data.toList pl.data.toList).toArray.size ≤ _; rw [List.size_toArray]; omega) (by simpa using hpst) W1
  have cC := fun W1 => lcost_any (fwd pc pl) pc pl (fwd_le pc pl) (by have := fwd_len pc pl; omega) (by omega) (by omega) (fwd_end pc pl (by omega) (by omega)) W1
  have hFs : (lets (fwd pc pl)).size = (fwd pc pl).length := lets_size _
  have hsh := shr_facts (scN pc.data.toList pl.data.toList) (scLn pc.data.toList pl.data.toList) hok.2.2.1 (by have := hok.2.1; have : pc.data.toList.length = pc.size := Array.length_toList; omega) (by omega)
  obtain ⟨A, B, Q, hA, hB, hQ, _, hi, hql1, hql2, ho1, ho2⟩ := qual_facts sq oq hq3 hq4 (by omega) hq2
  rw [fq4] at hB
  rw [fq240] at hQ
  rw [hE] at cS
  rw [hN] at hsh cS ⊢
  rw [hlF] at hsh ⊢
  unfold CoP at cC
  unfold LeP at cL
  have p50 : (1048576 : Nat) ≤ 2 ^ 50 := by decide
  have p53 : (1048576 : Nat) ≤ 2 ^ 53 := by decide
  have hNl : cntF (sR pc pl) (fwd pc pl) (0, 0) ≤ (fwd pc pl).length := by rw [← hN, ← hlF]; exact hok.2.2.1
  have hLl : (fwd pc pl).length ≤ 900 := by rw [← hlF]; exact hok.1
  have x1 : FloatKind.f64.format.order (fq sq) (fq (4 * (k : Int))) = some (compare sq (4 * (k : Int))) := order_fq _ _ (by omega) (by omega)
  have x2 : FloatKind.f64.format.order (fq oq) (fq 0) = some (compare oq 0) := order_fq _ _ (by omega) (by omega)
  have x3 : FloatKind.f64.format.order (fq oq) (fq sq) = some (compare oq sq) := order_fq _ _ (by omega) (by omega)
  have y1 : (FloatKind.f64.format.order (fq sq) (fq (4 * (k : Int))) == some Ordering.lt) = false := by
    rw [x1]; exact cmp_nlt _ _ (by omega)
  have y2 : (FloatKind.f64.format.order (fq oq) 0 == some Ordering.lt) = false := by
    rw [← fq0, x2]; exact cmp_nlt _ _ (by omega)
  have y3 : (FloatKind.f64.format.order (fq oq) (fq sq) == some Ordering.gt) = false := by
    rw [x3]; exact cmp_ngt _ _ hq4
  have y0 : (FloatKind.f64.format.order (fq sq) sc == some Ordering.lt) = false := by rw [beq_eq_false_iff_ne]; exact hsc
  have f1 : floatOfInt .f64 (k : Int) = fq (4 * (k : Int)) := ofInt_fq k (by omega)
  have f2 : floatOfInt .f64 ((cntF (sR pc pl) (fwd pc pl) (0, 0) : Nat) : Int) = fq (4 * ((cntF (sR pc pl) (fwd pc pl) (0, 0) : Nat) : Int)) := ofInt_fq _ (by omega)
  have f3 : floatOfInt .f64 (((fwd pc pl).length : Nat) : Int) = fq (4 * (((fwd pc pl).length : Nat) : Int)) := ofInt_fq _ (by omega)
  have f4 : floatOfInt .f64 (qual sq oq) = fq (4 * qual sq oq) := ofInt_fq _ (by omega)
  have f5 : floatBits .add .f64 (fq (4 * qual sq oq)) (fq 4) = some (fq (4 * qual sq oq + 4)) := add_fq _ _ (by omega) (by omega) (by omega)
  rw [fq4] at f5
  have q1 : ∀ W t, (binOp .quo t (.float .f64 (fq oq)) (.float .f64 (fq sq))).run Tryz.prog W = .ok (.float .f64 A) W := fun W t => run_float_arith W .quo t .f64 _ _ _ hA
  have q2 : ∀ W t, (binOp .sub t (.float .f64 4607182418800017408) (.float .f64 A)).run Tryz.prog W = .ok (.float .f64 B) W := fun W t => run_float_arith W .sub t .f64 _ _ _ hB
  have q3 : ∀ W t, (binOp .mul t (.float .f64 B) (.float .f64 4633641066610819072)).run Tryz.prog W = .ok (.float .f64 Q) W := fun W t => run_float_arith W .mul t .f64 _ _ _ hQ
  have q5 : ∀ W t, (binOp .add t (.float .f64 (fq (4 * qual sq oq))) (.float .f64 4607182418800017408)).run Tryz.prog W = .ok (.float .f64 (fq (4 * qual sq oq + 4))) W := fun W t => run_float_arith W .add t .f64 _ _ _ f5
  have q6 := fun W t => run_float_arith (P := Tryz.prog) W .quo t .f64 _ _ _ hsh.1
  have z1 : FloatKind.f64.format.order (fq (4 * qual sq oq)) Q = some .lt ∨ FloatKind.f64.format.order (fq (4 * qual sq oq)) Q = some .eq := ho1
  have HZ1 : Hid ((FloatKind.f64.format.order (fq (4 * qual sq oq)) Q == some Ordering.lt || FloatKind.f64.format.order (fq (4 * qual sq oq)) Q == some Ordering.eq) = true) := by
    show _ = true
    rcases z1 with h | h <;> rw [h] <;> rfl
  have z2 : (FloatKind.f64.format.order Q (fq (4 * qual sq oq + 4)) == some Ordering.lt) = true := by
    show (Ieee.double.order _ _ == _) = true; rw [ho2]; rfl
  have z3 : FloatKind.f64.format.order (shr (cntF (sR pc pl) (fwd pc pl) (0, 0)) (fwd pc pl).length) (shr (cntF (sR pc pl) (fwd pc pl) (0, 0)) (fwd pc pl).length) = some .eq := hsh.2
  generalize shr (cntF (sR pc pl) (fwd pc pl) (0, 0)) (fwd pc pl).length = dv at *
  generalize cntF (sR pc pl) (fwd pc pl) (0, 0) = NF at *
  generalize (⟨(scT pc.data.toList pl.data.toList).toArray⟩ : ByteArray) = TT at *
  generalize lets (fwd pc pl) = LF at *
  generalize (fwd pc pl).length = nF at *
  generalize cst (uR pc pl) (fwd pc pl).reverse pc.size pl.size = CF at *
  generalize fq (4 * qual sq oq + 4) = e1 at *
  generalize fq (4 * qual sq oq) = e2 at *
  generalize qual sq oq = ql at *
  generalize fq (4 * (NF : Int)) = e3 at *
  generalize fq (4 * (nF : Int)) = e4 at *
  generalize fq (4 * (k : Int)) = e5 at *
  generalize fq sq = fs at *
  generalize fq oq = fo at *
  have HCS := (show Hid _ from cS)
  have HCL := (show Hid _ from cL)
  have HCC := (show Hid _ from cC)
  clear cS cL cC hpst hTl hok hsh hA hB hQ hi hq1 hq2 hq3 hq4 ho1 ho2 x1 x2 x3 f5 hlF hE hT hN hql1 hql2 gl
  have hgl : g < w.heap.size := block_lt_of_cell hra
  have b0 : ¬ (fr : Int) < 0 := by omega
  have b00 : ¬ (st : Int) < 0 := by omega
  have b1 : IntKind.i64.wrap ((tl : Int) - fr) = (tl : Int) - fr := by rw [IntKind.wrap_i64]; omega
  have b2 : ¬ (tl : Int) - fr < k := by omega
  have b3 : IntKind.i64.wrap ((en : Int) - st) = (en : Int) - st := by rw [IntKind.wrap_i64]; omega
  have b4 : ¬ (en : Int) - st < k := by omega
  have b5 : ¬ (rd.size : Int) < tl := by omega
  have b6 : ¬ (ra.size : Int) < en := by omega
  have b7 : (fr : Int) ≤ tl := by omega
  have b8 : (tl : Int) ≤ rd.size := by omega
  have b9 : (st : Int) ≤ en := by omega
  have b10 : (en : Int) ≤ ra.size := by omega
  go_enter Tryz.func22, Tryz.ntmps22
  go_wp2_with fail
  obtain ⟨w0, hw0A⟩ : ∃ W1 : World, W1 = (w.alloc (Obj.cells #[Value.string { data := #[114] }, Value.int IntKind.i64 ↑fr, Value.int IntKind.i64 ↑tl, Value.bool true, Value.string { data := #[97] }, Value.int IntKind.i64 ↑st, Value.int IntKind.i64 ↑en, Value.float FloatKind.f64 fs, Value.float FloatKind.f64 fo, Value.int IntKind.i64 ql, Value.string TT, Value.int IntKind.i64 ↑NF, Value.float FloatKind.f64 dv] 71)).alloc (Obj.cells #[Value.int IntKind.i64 ↑k, Value.int IntKind.i64 ↑W, Value.float FloatKind.f64 sc] 24) := ⟨_, rfl⟩
  rw [← hw0A]
  have cT := turned_any (rd.extract fr tl) w0 (by rw [ByteArray.size_extract]; omega)
  refine cT.mono ?_
  rintro e wA ⟨⟨_, rfl⟩ | ⟨hbad, _⟩, hbT⟩
  rotate_left
  · exact absurd hgd hbad
  rw [← hpc]
  have HPC := (show Hid _ from hpc)
  clear hpc cT hgd
  have HBT : Hid (Below w0.heap.size w0 wA) := hbT
  clear hbT
  have hb0 : Below w.heap.size w w0 := by rw [hw0A]; exact ((Below.refl _ _).alloc (Nat.le_refl _) _).alloc (by simp) _
  have hs0 : w0.heap.size = w.heap.size + 2 := by rw [hw0A]; simp
  have h00 : w0.heap[w.heap.size]? = some (Obj.cells #[Value.string { data := #[114] }, Value.int IntKind.i64 ↑fr, Value.int IntKind.i64 ↑tl, Value.bool true, Value.string { data := #[97] }, Value.int IntKind.i64 ↑st, Value.int IntKind.i64 ↑en, Value.float FloatKind.f64 fs, Value.float FloatKind.f64 fo, Value.int IntKind.i64 ql, Value.string TT, Value.int IntKind.i64 ↑NF, Value.float FloatKind.f64 dv] 71 (0, 0)) := by rw [hw0A, Below.heap_alloc _ _ _ (by simp)]; exact heap_alloc_new w _
  have h01 : w0.heap[w.heap.size + 1]? = some (Obj.cells #[Value.int IntKind.i64 ↑k, Value.int IntKind.i64 ↑W, Value.float FloatKind.f64 sc] 24 (0, 0)) := by rw [hw0A]; exact heap_alloc2_new w _ _
  have hbA : Below w.heap.size w wA := hb0.trans (HBT.out.mono (by omega))
  have hA0 := (HBT.out.block w.heap.size (by omega)).trans h00
  have hA1 := (HBT.out.block (w.heap.size + 1) (by omega)).trans h01
  have hsA : w.heap.size + 2 ≤ wA.heap.size := by have := HBT.out.size; omega
  have v5 := cell_at hA0 (i := 5) rfl
  have v6 := cell_at hA0 (i := 6) rfl
  clear hw0A h00 h01 hb0
  go_wp2_with fail
  rw [← hpl]
  clear v5 v6 hgl hra hrb
  rename_i K12 hK12
  have c1 : (k : Int) ≤ pc.size := by omega
  have c2 : (k : Int) ≤ pl.size := by omega
  have c3 : IntKind.i64.wrap ((pc.size : Int) - k) = ((pc.size - k : Nat) : Int) := by rw [IntKind.wrap_i64]; omega
  have c4 : IntKind.i64.wrap ((pl.size : Int) - k) = ((pl.size - k : Nat) : Int) := by rw [IntKind.wrap_i64]; omega
  have c5 : ((pc.size - k : Nat) : Int) ≤ pc.size := by omega
  have c6 : ((pl.size - k : Nat) : Int) ≤ pl.size := by omega
  have c7 : k ≤ pc.size := by omega
  have c8 : k ≤ pl.size := by omega
  have HW0 := (show Hid _ from hw0)
  have HW1 := (show Hid _ from hw1)
  have HPS : Hid (pc.size ≤ 300 ∧ pl.size ≤ 600) := ⟨by omega, by omega⟩
  clear hpl hps hpls h1 h2 h3 h4 b1 b2 b3 b4 b5 b6 b7 b8 b9 b10
  refine wp_region_X 26 (fun W1 => W1.cell? ⟨w.heap.size + 1, 0, none⟩ = some (.int .i64 k)) (by kernel_rfl) (cell_at hA1 rfl) (fun hH => ?_)
  refine wpZ 0 hH ?_
  refine wpZ 1 hH ?_
  refine wpZ 2 hH ?_
  refine wpZ 3 hH ?_
  refine wpZ 4 hH ?_
  refine wpZ 5 hH ?_
  refine wpZ 6 hH ?_
  refine wpZ 7 hH ?_
  refine wpZ 8 hH ?_
  refine wpZ 9 hH ?_
  refine wpZ 10 hH ?_
  refine wpZ 11 hH ?_
  refine wpZ 12 hH ?_
  refine wpZ 13 hH ?_
  refine wpZ 14 hH ?_
  refine wpZ 15 hH ?_
  refine wpZ 16 hH ?_
  refine wpZ 17 hH ?_
  refine wpZ 18 hH ?_
  refine wpZ 19 hH ?_
  refine wpZ 20 hH ?_
  refine wpZ 21 hH ?_
  refine wpZ 22 hH ?_
  refine wpZ 23 hH ?_
  refine wpZ 24 hH ?_
  refine wpZ 25 hH ?_
  refine wpAnyX_done (by kernel_rfl) ?_
  refine hK12 _ _ ?_
  clear hK12 hH
  have v10 : wA.drew.cell? ⟨w.heap.size, 10, none⟩ = some (.string TT) := cell_at (w := wA.drew) hA0 rfl
  go_wp2_with fail
  refine (HCL.out _).mono ?_
  rintro e w1 ⟨rfl, hb1⟩
  have HB1 : Hid (Below wA.heap.size wA w1) := ⟨hb1.os, hb1.tape, hb1.output, hb1.size, hb1.block⟩
  clear hb1 HCL v10
  go_wp2_with fail
  refine (HCC.out _).mono ?_
  rintro e w2 ⟨rfl, hb2⟩
  have HB2 : Hid (Below wA.heap.size wA w2) := HB1.out.trans (hb2.mono HB1.out.size)
  clear hb2 HCC HB1
  go_wp2_with fail
  refine (HCS.out _ (hbA.trans (HB2.out.mono (by omega)))).mono ?_
  rintro e w3 ⟨rfl, hb3⟩
  have HB3 : Hid (Below wA.heap.size wA w3) := HB2.out.trans (hb3.mono HB2.out.size)
  clear hb3 HCS HB2
  have h30 := (HB3.out.block w.heap.size (by omega)).trans hA0
  have h31 := (HB3.out.block (w.heap.size + 1) (by omega)).trans hA1
  have v7 := cell_at h30 (i := 7) rfl
  have v8 := cell_at h30 (i := 8) rfl
  have v9 := cell_at h30 (i := 9) rfl
  have v10 := cell_at h30 (i := 10) rfl
  have v11 := cell_at h30 (i := 11) rfl
  have v12 := cell_at h30 (i := 12) rfl
  have o0 := cell_at h31 (i := 0) rfl
  have o2 := cell_at h31 (i := 2) rfl
  go_wp2_with fail
  go_ret
  exact ⟨congrArg (fun b => Ending.returned (.bool b)) HZ1.out, hbA.trans (HB3.out.mono (by omega))⟩
end Go.Proofs.YtilcmkiihefkkaaGreatDoor.Mn
end
