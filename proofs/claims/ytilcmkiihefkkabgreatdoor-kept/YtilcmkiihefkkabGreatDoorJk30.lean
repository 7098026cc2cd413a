import Derived.Test.YtilcmkiihefkkabGreatDoorJk29
section
set_option linter.unusedVariables false
set_option linter.unusedSimpArgs false
set_option maxRecDepth 100000
namespace Go.Proofs.YtilcmkiihefkkabGreatDoor
open Go.RowKit Go.Shelf
def uN (R F : List Nat) (i j : Nat) : Int := prC (R.getD i 9) (F.getD j 9)
def sN (R F : List Nat) (i j : Nat) : Bool := decide (R.getD i 9 = F.getD j 9 ∧ R.getD i 9 ≠ 4)
theorem uN_bd (R F : List Nat) : ∀ i j, 0 ≤ uN R F i j ∧ uN R F i j ≤ 4 := fun i j => by
  unfold uN prC
  split <;> omega
theorem okC.okB {c : C3} {i j : Nat} (h : okC 1048576 c i j) (hi : i ≤ 300) (hj : j ≤ 600) : okB c := by
  obtain ⟨m, y, d⟩ := c
  unfold okC at h
  unfold YtilcmkiihefkkabGreatDoor.okB
  simp only at h ⊢
  omega
theorem cel_okB (R F : List Nat) (i j : Nat) (hi : i ≤ 300) (hj : j ≤ 600) : okB (cel 1048576 (uN R F) i j) := (cel_ok 1048576 (by omega) (uN R F) (uN_bd R F) i j hi hj).okB hi hj
/-- script at work -/
def ScI (R F : List Nat) (n m : Nat) (w wx : World) (sv : Value) (cnt i j x : Nat) : Prop :=
  ∃ (L : List Nat) (f : Nat), i ≤ n ∧ j ≤ m ∧ x ≤ 2 ∧ i + j ≤ f ∧ L.length + (i + j) ≤ n + m ∧ OwnR wx w.heap.size 3 1 sv L.length (numV L) ∧ L ++ path 1048576 (uN R F) f i j x = path 1048576 (uN R F) (n + m) n m 0 ∧
    cnt + cntB (sN R F) (path 1048576 (uN R F) f i j x) i j = cntB (sN R F) (path 1048576 (uN R F) (n + m) n m 0) n m ∧ Below w.heap.size w wx
theorem ScI.step {R F : List Nat} {n m : Nat} {w wx w' : World} {sv sv' : Value} {cnt i j x y : Nat} (L : List Nat) (f : Nat) (hx : x ≤ 2) (hi : i ≤ n) (hj : j ≤ m) (hf : i + j ≤ f + 1) (hp : 0 < i + j) (hll : L.length + (i + j) ≤ n + m)
    (hy : nx (cel 1048576 (uN R F) i j) x = y) (hyi : y ≠ 2 → 0 < i) (hyj : y ≠ 1 → 0 < j)
    (h1 : L ++ path 1048576 (uN R F) (f + 1) i j x = path 1048576 (uN R F) (n + m) n m 0)
    (h2 : cnt + cntB (sN R F) (path 1048576 (uN R F) (f + 1) i j x) i j = cntB (sN R F) (path 1048576 (uN R F) (n + m) n m 0) n m)
    (hown : OwnR w' w.heap.size 3 1 sv' (L.length + 1) (numV L ++ [.int .i64 y])) (hb : Below w.heap.size w w')
    (cnt' i' j' : Nat) (hi' : i' = if y = 2 then i else i - 1) (hj' : j' = if y = 1 then j else j - 1) (hc : cnt' = cnt + if y = 0 ∧ sN R F (i - 1) (j - 1) = true then 1 else 0) :
    ScI R F n m w w' sv' cnt' i' j' y := by
  have hyl : y ≤ 2 := by rw [← hy]; exact nx_le _ _
  have e : path 1048576 (uN R F) (f + 1) i j x = y :: path 1048576 (uN R F) f i' j' y := by
    rw [path, if_neg (by omega), hy, ← hi', ← hj']
  have hii : i' ≤ i := by rw [hi']; split <;> omega
  have hjj : j' ≤ j := by rw [hj']; split <;> omega
  have hdec : i' + j' + 1 ≤ i + j := by
    rcases (show y = 0 ∨ y = 1 ∨ y = 2 by omega) with rfl | rfl | rfl
    · have := hyi (by omega); have := hyj (by omega)
      simp at hi' hj'; omega
    · have := hyi (by omega)
      simp at hi' hj'; omega
    · have := hyj (by omega)
      simp at hi' hj'; omega
  refine ⟨L ++ [y], f, by omega, by omega, hyl, by omega, by simp; omega, ?_, ?_, ?_, hb⟩
  · rw [List.length_append]
    have : numV (L ++ [y]) = numV L ++ [.int .i64 y] := by simp [numV]
    rw [this]; exact hown
  · rw [e] at h1; rw [List.append_assoc]; exact h1
  · rw [e] at h2
    rw [← h2, cntB, hc, ← hi', ← hj']
    omega
set_option maxHeartbeats 8000000 in
theorem scr_any (R F : List Nat) (n m base B : Nat) (hR : R.length = n) (hF : F.length = m) (hn : n ≤ 300) (hm : m ≤ 600) (vr vf vw : Value) (VS : List Value) (w : World)
    (hB : w.heap[B]? = some (.cells #[vr, vf, vw] 232 (0, 0)))
    (h1 : OwnR w base 3 1 vr n (numV R)) (h2 : OwnR w base 3 1 vf m (numV F)) (h3 : OwnR w base 227 1 vw (n + 1) VS)
    (h4 : ∀ i, i ≤ n → ∃ v, VS[i]? = some v ∧ OwnR w base 229 3 v (m + 1) (celsL (cel 1048576 (uN R F) i) (m + 1))) :
    Calls Tryz.prog 98 #[.pointer (some ⟨B, 0, none⟩)] w fun e w' => ∃ v, e = .returned (.tuple #[v, .int .i64 (cntB (sN R F) (path 1048576 (uN R F) (n + m) n m 0) n m : Nat)]) ∧
      OwnR w' w.heap.size 3 1 v (path 1048576 (uN R F) (n + m) n m 0).length (numV (path 1048576 (uN R F) (n + m) n m 0).reverse) ∧ Below w.heap.size w w' := by
  obtain ⟨i3, hi3, hz0, hz1, hz2⟩ := info_parts Tryz.info3
  obtain ⟨ar, cr, rfl⟩ := h1.shape
  obtain ⟨af, cf, rfl⟩ := h2.shape
  obtain ⟨gw, ow, cw, rfl, hgw1, hgw2⟩ := h3.addr (by omega)
  have hltB := lt_of_block hB
  have b0 : w.cell? ⟨B, 0, none⟩ = some (.slice ar n cr) := cell_at hB rfl
  have b1 : w.cell? ⟨B, 1, none⟩ = some (.slice af m cf) := cell_at hB rfl
  have b2 : w.cell? ⟨B, 2, none⟩ = some (.slice (some ⟨gw, ow, none⟩) (n + 1) cw) := cell_at hB rfl
  have H1 : Hid (OwnR w base 3 1 (.slice ar n cr) n (numV R)) := h1
  have H2 : Hid (OwnR w base 3 1 (.slice af m cf) m (numV F)) := h2
  have H3 : Hid (OwnR w base 227 1 (.slice (some ⟨gw, ow, none⟩) (n + 1) cw) (n + 1) VS) := h3
  have H4 : Hid (∀ i, i ≤ n → ∃ v, VS[i]? = some v ∧ OwnR w base 229 3 v (m + 1) (celsL (cel 1048576 (uN R F) i) (m + 1))) := h4
  have HRL : Hid (R.length = n) := hR
  have HFL : Hid (F.length = m) := hF
  clear hB h1 h2 h3 h4 hR hF
  go_enter Tryz.func98, Tryz.ntmps98
  go_wp2_with fail
  refine wp_region_X 12 (fun W => W.cell? ⟨B, 0, none⟩ = some (.slice ar n cr) ∧ W.cell? ⟨B, 1, none⟩ = some (.slice af m cf)) (by kernel_rfl) ⟨b0, b1⟩ (fun hH => ?_)
  refine wpZ 0 hH ?_
  refine wpZ 1 hH ?_
  refine wpZ 2 hH ?_
  refine wpZ 3 hH ?_
  refine wpZ 4 hH ?_
  refine wpZ 5 hH ?_
  refine wpZ 6 hH ?_
  refine wpZ 7 hH ?_
  refine wpZ 8 hH ?_
  refine wpZ 9 hH ?_
  refine wpZ 10 hH ?_
  refine wpZ 11 hH ?_
  refine wpAnyX_done (by kernel_rfl) ?_
  clear hH
  go_wp2_with fail
  have HST : Hid (ScI R F n m w w.drew (.slice none 0 0) 0 n m 0) := ⟨[], n + m, Nat.le_refl _, Nat.le_refl _, by omega, Nat.le_refl _, by simp, OwnR.nil _ _ _ _, rfl, by simp, belDrewN (Below.refl _ w) 1⟩
  go_loopw [4, 5, 6, 7, 8] (fun lv cv iv jv xv wx => ∃ cnt i j x : Nat, cv = .int .i64 cnt ∧ iv = .int .i64 i ∧ jv = .int .i64 j ∧ xv = .int .i64 x ∧ cnt + i + j ≤ n + m ∧ ScI R F n m w wx lv cnt i j x) (fun _ _ iv jv _ _ => (RowKit.intOf iv).toNat + (RowKit.intOf jv).toNat)
  case atStart => exact ⟨0, n, m, 0, rfl, rfl, rfl, rfl, by omega, HST.out⟩
  case round =>
    clear HST
    obtain ⟨cnt, i, j, x, rfl, rfl, rfl, rfl, hcb, L, f, hi, hj, hx, hf, hll, hown, hp1, hp2, hbel⟩ := hrel
    obtain ⟨ao, c, hv⟩ := hown.shape
    subst hv
    have hsz := hbel.size
    by_cases hp : 0 < i + j
    · obtain ⟨f', rfl⟩ : ∃ f', f = f' + 1 := ⟨f - 1, by omega⟩
      obtain ⟨v, hV, hrow⟩ := H4.out i hi
      obtain ⟨ga, oa, ca, rfl, hga1, hga2⟩ := hrow.addr (by omega)
      have cwi := H3.out.cell hV
      obtain ⟨d0, d1, d2⟩ := hrow.cel j (by omega)
      have hok := cel_okB R F i j (by omega) (by omega)
      have hrch := nx_reach 1048576 (by omega) (cel 1048576 (uN R F) i j) i j (by omega) (by omega) (cel_ok 1048576 (by omega) (uN R F) (uN_bd R F) i j (by omega) (by omega)) hp x
      have hy2 := nx_le (cel 1048576 (uN R F) i j) x
      obtain ⟨cc, hcc⟩ : ∃ cc, cc = cel 1048576 (uN R F) i j := ⟨_, rfl⟩
      have HCC : Hid (cc = cel 1048576 (uN R F) i j) := hcc
      rw [← hcc] at d0 d1 d2 hok hrch hy2
      rw [← hbel.cell (p := ⟨ga, oa + j * 3, none⟩) hga2] at d0
      rw [← hbel.cell (p := ⟨ga, oa + j * 3 + 1, none⟩) hga2] at d1
      rw [← hbel.cell (p := ⟨ga, oa + j * 3 + 2, none⟩) hga2] at d2
      rw [← hbel.cell (p := ⟨gw, ow + i, none⟩) hgw2] at cwi
      have b0r := (hbel.cell (p := ⟨B, 0, none⟩) hltB).trans b0
      have b1r := (hbel.cell (p := ⟨B, 1, none⟩) hltB).trans b1
      have b2r := (hbel.cell (p := ⟨B, 2, none⟩) hltB).trans b2
      have cA := fun W => ahead_any cc x hx W hok.big
      obtain ⟨y, hy⟩ : ∃ y, y = nx cc x := ⟨_, rfl⟩
      obtain ⟨a, ha⟩ : ∃ a, a = av cc x := ⟨_, rfl⟩
      rw [← hy, ← ha] at cA
      rw [← hy] at hrch hy2
      have HY : Hid (nx (cel 1048576 (uN R F) i j) x = y) := by
        show _ = _
        rw [hy, HCC.out]
      have HP1 : Hid (L ++ path 1048576 (uN R F) (f' + 1) i j x = path 1048576 (uN R F) (n + m) n m 0) := hp1
      have HP2 : Hid (cnt + cntB (sN R F) (path 1048576 (uN R F) (f' + 1) i j x) i j = cntB (sN R F) (path 1048576 (uN R F) (n + m) n m 0) n m) := hp2
      obtain ⟨ll, hll2⟩ : ∃ ll, ll = L.length := ⟨_, rfl⟩
      have HLL : Hid (ll = L.length) := hll2
      rw [← hll2] at hown hll ⊢
      have HOWN : Hid (OwnR wr w.heap.size 3 1 (.slice ao ll c) ll (numV L)) := hown
      have HBEL : Hid (Below w.heap.size w wr) := hbel
      have fld : ∀ W, (Instr.field 234 (.agg #[.int .i64 (y : Nat), .int .i64 a]) 0).run Tryz.prog W = .ok (.int .i64 (y : Nat)) W := fun _ => by kernel_rfl
      have hiI : (i : Int) < (n : Int) + 1 := by omega
      have hjI : (j : Int) < (m : Int) + 1 := by omega
      obtain ⟨cm, ci, cd⟩ := cc
      simp only at d0 d1 d2 cA
      clear hcc hy ha hok hp1 hp2 hll2 hown hbel hrow hV
      rcases (show (y = 0 ∧ 0 < i) ∨ (y = 1 ∧ 0 < i) ∨ (y = 2 ∧ 0 < i) ∨ (y = 2 ∧ i = 0) by
        rcases (show y = 0 ∨ y = 1 ∨ y = 2 by omega) with h | h | h
        · have := hrch.1 h; omega
        · have := hrch.2.1 h; omega
        · omega) with ⟨rfl, h0i⟩ | ⟨rfl, h0i⟩ | ⟨rfl, h0i⟩ | ⟨rfl, rfl⟩
      · have h0j := (hrch.1 rfl).2
        obtain ⟨gr, or, cr', hvr, hgr1, hgr2⟩ := H1.out.addr (by omega)
        obtain ⟨gf, of, cf', hvf, hgf1, hgf2⟩ := H2.out.addr (by omega)
        have hvr2 : ar = some ⟨gr, or, none⟩ ∧ cr = cr' := by simpa using hvr
        obtain ⟨rfl, rfl⟩ := hvr2
        have hvf2 : af = some ⟨gf, of, none⟩ ∧ cf = cf' := by simpa using hvf
        obtain ⟨rfl, rfl⟩ := hvf2
        have cr0 := H1.out.cell (numV_get R (i - 1) (by rw [HRL.out]; omega))
        have cf0 := H2.out.cell (numV_get F (j - 1) (by rw [HFL.out]; omega))
        obtain ⟨p, hp0⟩ : ∃ p, p = R.getD (i - 1) 9 := ⟨_, rfl⟩
        obtain ⟨q, hq0⟩ : ∃ q, q = F.getD (j - 1) 9 := ⟨_, rfl⟩
        rw [← hp0] at cr0
        rw [← hq0] at cf0
        have hin : ((i : Int) - 1).toNat = i - 1 := by omega
        have hjn : ((j : Int) - 1).toNat = j - 1 := by omega
        have hin1 : (0 : Int) ≤ (i : Int) - 1 := by omega
        have hjn1 : (0 : Int) ≤ (j : Int) - 1 := by omega
        have hin0 : (1 : Int) ≤ (i : Int) := by omega
        have hjn0 : (1 : Int) ≤ (j : Int) := by omega
        have hin2 : (i : Int) - 1 < n := by omega
        have hjn2 : (j : Int) - 1 < m := by omega
        have cS := fun W => psame_any p q W
        clear hvr hvf hrch
        by_cases hs : p = q ∧ p ≠ 4
        · have HSS : Hid (sN R F (i - 1) (j - 1) = true) := by
            show _ = _
            unfold sN; rw [← hp0, ← hq0]; exact decide_eq_true hs
          rw [decide_eq_true hs] at cS
          clear hp0 hq0 hs
          have hcw : IntKind.i64.wrap ((cnt : Int) + 1) = (cnt : Int) + 1 := by rw [IntKind.wrap_i64]; omega
          have hiw : IntKind.i64.wrap ((i : Int) - 1) = (i : Int) - 1 := by rw [IntKind.wrap_i64]; omega
          have hjw : IntKind.i64.wrap ((j : Int) - 1) = (j : Int) - 1 := by rw [IntKind.wrap_i64]; omega
          have h0iI : (0 : Int) < i := by omega
          have fl0 : ∀ W, (Instr.field 234 (.agg #[.int .i64 0, .int .i64 a]) 0).run Tryz.prog W = .ok (.int .i64 0) W := fun _ => by kernel_rfl
          go_upto_region 12 with (first | (go_at_call 134; refine (cA _).mono ?_; rintro e w5 ⟨rfl, hb5⟩; have HB5 : Hid (Below wr.heap.size wr w5) := hb5; have hs5 := hb5.size; clear hb5) | (at_builtin; go_must (refine wpList_own _ rfl (.tmp 38) (.tmp 40) 186 rfl 3 i3 _ 1 8 Tryz.underlying186 hi3 hz0 hz1 hz2 rfl (by decide) w.heap.size (.slice ao ll c) ll (numV L) rfl (by exact (HOWN.out.other (fun g _ hlt => HB5.out.block g hlt)).alloc _) ⟨w5.heap.size, 0, none⟩ 1 [.int .i64 (0 : Nat)] rfl rfl (by exact box_at w5 [.int .i64 (0 : Nat)] 3 _ rfl) (int_oneCell _ _) (by unfold maxLen; omega) (by omega) (by simp; omega) ?_; intro g' o' cap' w6 hown6 hfr6; have HO6 : Hid (OwnR w6 w.heap.size 3 1 (.slice (some ⟨g', o', none⟩) (ll + 1) cap') (ll + 1) (numV L ++ [.int .i64 (0 : Nat)])) := hown6; have HB6 : Hid (Below w.heap.size w w6) := (HBEL.out.trans (HB5.out.mono (by omega))).trans (((Below.refl _ w5).alloc (by omega) _).trans (hfr6.below (fun g hg => (HOWN.out.lt hg).1) (by simp; omega))); clear hown6 hfr6)))
          have s0 := (HB6.out.cell (p := ⟨B, 0, none⟩) hltB).trans b0
          have s1 := (HB6.out.cell (p := ⟨B, 1, none⟩) hltB).trans b1
          have s2 := (HB6.out.cell (p := ⟨gr, or + (i - 1), none⟩) hgr2).trans cr0
          have s3 := (HB6.out.cell (p := ⟨gf, of + (j - 1), none⟩) hgf2).trans cf0
          refine wp_region_X 19 (fun W => W.cell? ⟨B, 0, none⟩ = some (.slice (some ⟨gr, or, none⟩) n cr) ∧ W.cell? ⟨B, 1, none⟩ = some (.slice (some ⟨gf, of, none⟩) m cf) ∧ W.cell? ⟨gr, or + (i - 1), none⟩ = some (.int .i64 (p : Nat)) ∧ W.cell? ⟨gf, of + (j - 1), none⟩ = some (.int .i64 (q : Nat))) (by kernel_rfl) ⟨s0, s1, s2, s3⟩ (fun hH => ?_)
          refine wpZ 0 hH ?_
          refine wpZ 1 hH ?_
          refine wpZ 2 hH ?_
          refine wpZ 3 hH ?_
          refine wpZ 4 hH ?_
          refine wpZ 5 hH ?_
          refine wpZ 6 hH ?_
          refine wpZ 7 hH ?_
          refine wpZ 8 hH ?_
          refine wpZ 9 hH ?_
          refine wpZ 10 hH ?_
          refine wpZ 11 hH ?_
          refine wpZ 12 hH ?_
          refine wpZ 13 hH ?_
          refine wpZ 14 hH ?_
          refine wpZ 15 hH ?_
          refine wpZ 16 hH ?_
          refine wpAnyX_step (i := 17) (by kernel_rfl) rfl (by kernel_rfl) (fun K hK => ?_)
          go_simp
          go_at_call 136
          refine (cS _).mono ?_
          rintro e w8 ⟨rfl, rfl⟩
          refine hK.out _ _ hH ?_
          clear hK K
          try simp only [Act.put, zA0, zZ0, zS0]
          refine wpZ 18 hH ?_
          refine wpAnyX_done (by kernel_rfl) ?_
          clear hH
          go_wp2_with fail
          go_roundw
          case rel =>
            refine ⟨cnt + 1, i - 1, j - 1, 0, by go_num, by rw [show (i : Int) - 1 = ((i - 1 : Nat) : Int) by omega], by rw [show (j : Int) - 1 = ((j - 1 : Nat) : Int) by omega], rfl, by omega, ?_⟩
            have hl' : L.length + (i + j) ≤ n + m := by rw [← HLL.out]; exact hll
            have ho' : OwnR w6.drew w.heap.size 3 1 (.slice (some ⟨g', o', none⟩) (ll + 1) cap') (L.length + 1) (numV L ++ [.int .i64 ((0 : Nat) : Int)]) := by
              rw [← HLL.out]; exact HO6.out.drewN 1
            have hb' : Below w.heap.size w w6.drew := belDrewN HB6.out 1
            refine ScI.step (wx := wr) (w' := w6.drew) (sv := .slice ao ll c) (sv' := .slice (some ⟨g', o', none⟩) (ll + 1) cap') (cnt := cnt) (i := i) (j := j) (x := x) (y := 0) L f' hx hi hj hf hp hl' HY.out ?_ ?_ HP1.out HP2.out ho' hb' (cnt + 1) (i - 1) (j - 1) ?_ ?_ ?_
            · intro h; omega
            · intro h; omega
            · rw [if_neg (by decide)]
            · rw [if_neg (by decide)]
            · rw [if_pos ⟨rfl, HSS.out⟩]
          case measure => simp [RowKit.intOf]; omega
        · have HSS : Hid (sN R F (i - 1) (j - 1) = false) := by
            show _ = _
            unfold sN; rw [← hp0, ← hq0]; exact decide_eq_false hs
          rw [decide_eq_false hs] at cS
          clear hp0 hq0 hs
          have hcw : IntKind.i64.wrap ((cnt : Int) + 1) = (cnt : Int) + 1 := by rw [IntKind.wrap_i64]; omega
          have hiw : IntKind.i64.wrap ((i : Int) - 1) = (i : Int) - 1 := by rw [IntKind.wrap_i64]; omega
          have hjw : IntKind.i64.wrap ((j : Int) - 1) = (j : Int) - 1 := by rw [IntKind.wrap_i64]; omega
          have h0iI : (0 : Int) < i := by omega
          have fl0 : ∀ W, (Instr.field 234 (.agg #[.int .i64 0, .int .i64 a]) 0).run Tryz.prog W = .ok (.int .i64 0) W := fun _ => by kernel_rfl
          go_upto_region 12 with (first | (go_at_call 134; refine (cA _).mono ?_; rintro e w5 ⟨rfl, hb5⟩; have HB5 : Hid (Below wr.heap.size wr w5) := hb5; have hs5 := hb5.size; clear hb5) | (at_builtin; go_must (refine wpList_own _ rfl (.tmp 38) (.tmp 40) 186 rfl 3 i3 _ 1 8 Tryz.underlying186 hi3 hz0 hz1 hz2 rfl (by decide) w.heap.size (.slice ao ll c) ll (numV L) rfl (by exact (HOWN.out.other (fun g _ hlt => HB5.out.block g hlt)).alloc _) ⟨w5.heap.size, 0, none⟩ 1 [.int .i64 (0 : Nat)] rfl rfl (by exact box_at w5 [.int .i64 (0 : Nat)] 3 _ rfl) (int_oneCell _ _) (by unfold maxLen; omega) (by omega) (by simp; omega) ?_; intro g' o' cap' w6 hown6 hfr6; have HO6 : Hid (OwnR w6 w.heap.size 3 1 (.slice (some ⟨g', o', none⟩) (ll + 1) cap') (ll + 1) (numV L ++ [.int .i64 (0 : Nat)])) := hown6; have HB6 : Hid (Below w.heap.size w w6) := (HBEL.out.trans (HB5.out.mono (by omega))).trans (((Below.refl _ w5).alloc (by omega) _).trans (hfr6.below (fun g hg => (HOWN.out.lt hg).1) (by simp; omega))); clear hown6 hfr6)))
          have s0 := (HB6.out.cell (p := ⟨B, 0, none⟩) hltB).trans b0
          have s1 := (HB6.out.cell (p := ⟨B, 1, none⟩) hltB).trans b1
          have s2 := (HB6.out.cell (p := ⟨gr, or + (i - 1), none⟩) hgr2).trans cr0
          have s3 := (HB6.out.cell (p := ⟨gf, of + (j - 1), none⟩) hgf2).trans cf0
          refine wp_region_X 19 (fun W => W.cell? ⟨B, 0, none⟩ = some (.slice (some ⟨gr, or, none⟩) n cr) ∧ W.cell? ⟨B, 1, none⟩ = some (.slice (some ⟨gf, of, none⟩) m cf) ∧ W.cell? ⟨gr, or + (i - 1), none⟩ = some (.int .i64 (p : Nat)) ∧ W.cell? ⟨gf, of + (j - 1), none⟩ = some (.int .i64 (q : Nat))) (by kernel_rfl) ⟨s0, s1, s2, s3⟩ (fun hH => ?_)
          refine wpZ 0 hH ?_
          refine wpZ 1 hH ?_
          refine wpZ 2 hH ?_
          refine wpZ 3 hH ?_
          refine wpZ 4 hH ?_
          refine wpZ 5 hH ?_
          refine wpZ 6 hH ?_
          refine wpZ 7 hH ?_
          refine wpZ 8 hH ?_
          refine wpZ 9 hH ?_
          refine wpZ 10 hH ?_
          refine wpZ 11 hH ?_
          refine wpZ 12 hH ?_
          refine wpZ 13 hH ?_
          refine wpZ 14 hH ?_
          refine wpZ 15 hH ?_
          refine wpZ 16 hH ?_
          refine wpAnyX_step (i := 17) (by kernel_rfl) rfl (by kernel_rfl) (fun K hK => ?_)
          go_simp
          go_at_call 136
          refine (cS _).mono ?_
          rintro e w8 ⟨rfl, rfl⟩
          refine hK.out _ _ hH ?_
          clear hK K
          try simp only [Act.put, zA0, zZ0, zS0]
          refine wpZ 18 hH ?_
          refine wpAnyX_done (by kernel_rfl) ?_
          clear hH
          go_wp2_with fail
          go_roundw
          case rel =>
            refine ⟨cnt, i - 1, j - 1, 0, rfl, by rw [show (i : Int) - 1 = ((i - 1 : Nat) : Int) by omega], by rw [show (j : Int) - 1 = ((j - 1 : Nat) : Int) by omega], rfl, by omega, ?_⟩
            have hl' : L.length + (i + j) ≤ n + m := by rw [← HLL.out]; exact hll
            have ho' : OwnR w6.drew w.heap.size 3 1 (.slice (some ⟨g', o', none⟩) (ll + 1) cap') (L.length + 1) (numV L ++ [.int .i64 ((0 : Nat) : Int)]) := by
              rw [← HLL.out]; exact HO6.out.drewN 1
            have hb' : Below w.heap.size w w6.drew := belDrewN HB6.out 1
            refine ScI.step (wx := wr) (w' := w6.drew) (sv := .slice ao ll c) (sv' := .slice (some ⟨g', o', none⟩) (ll + 1) cap') (cnt := cnt) (i := i) (j := j) (x := x) (y := 0) L f' hx hi hj hf hp hl' HY.out ?_ ?_ HP1.out HP2.out ho' hb' (cnt) (i - 1) (j - 1) ?_ ?_ ?_
            · intro h; omega
            · intro h; omega
            · rw [if_neg (by decide)]
            · rw [if_neg (by decide)]
            · rw [if_neg (fun h => by have := h.2; rw [HSS.out] at this; cases this)]; exact (Nat.add_zero _).symm
          case measure => simp [RowKit.intOf]; omega
      · clear hrch
        have hcw : IntKind.i64.wrap ((cnt : Int) + 1) = (cnt : Int) + 1 := by rw [IntKind.wrap_i64]; omega
        have hiw : IntKind.i64.wrap ((i : Int) - 1) = (i : Int) - 1 := by rw [IntKind.wrap_i64]; omega
        have h0iI : (0 : Int) < i := by omega
        have fl0 : ∀ W, (Instr.field 234 (.agg #[.int .i64 1, .int .i64 a]) 0).run Tryz.prog W = .ok (.int .i64 1) W := fun _ => by kernel_rfl
        go_upto_region 12 with (first | (go_at_call 134; refine (cA _).mono ?_; rintro e w5 ⟨rfl, hb5⟩; have HB5 : Hid (Below wr.heap.size wr w5) := hb5; have hs5 := hb5.size; clear hb5) | (at_builtin; go_must (refine wpList_own _ rfl (.tmp 38) (.tmp 40) 186 rfl 3 i3 _ 1 8 Tryz.underlying186 hi3 hz0 hz1 hz2 rfl (by decide) w.heap.size (.slice ao ll c) ll (numV L) rfl (by exact (HOWN.out.other (fun g _ hlt => HB5.out.block g hlt)).alloc _) ⟨w5.heap.size, 0, none⟩ 1 [.int .i64 (1 : Nat)] rfl rfl (by exact box_at w5 [.int .i64 (1 : Nat)] 3 _ rfl) (int_oneCell _ _) (by unfold maxLen; omega) (by omega) (by simp; omega) ?_; intro g' o' cap' w6 hown6 hfr6; have HO6 : Hid (OwnR w6 w.heap.size 3 1 (.slice (some ⟨g', o', none⟩) (ll + 1) cap') (ll + 1) (numV L ++ [.int .i64 (1 : Nat)])) := hown6; have HB6 : Hid (Below w.heap.size w w6) := (HBEL.out.trans (HB5.out.mono (by omega))).trans (((Below.refl _ w5).alloc (by omega) _).trans (hfr6.below (fun g hg => (HOWN.out.lt hg).1) (by simp; omega))); clear hown6 hfr6)))
        refine wp_region_X 19 (fun W => True) (by kernel_rfl) trivial (fun hH => ?_)
        refine wpZ 0 hH ?_
        refine wpZ 1 hH ?_
        refine wpZ 2 hH ?_
        refine wpAnyX_take (i := 3) (v := undef) rfl (by kernel_rfl) (by kernel_rfl) (by kernel_rfl) (by kernel_rfl) (fun _ _ _ h => h) (Or.inr ⟨by rfl, rfl⟩) hH ?_
        try simp only [Act.put, zA0, zZ0, zS0]
        refine wpAnyX_take (i := 4) (v := undef) rfl (by kernel_rfl) (by kernel_rfl) (by kernel_rfl) (by kernel_rfl) (fun _ _ _ h => h) (Or.inr ⟨by rfl, rfl⟩) hH ?_
        try simp only [Act.put, zA0, zZ0, zS0]
        refine wpAnyX_take (i := 5) (v := undef) rfl (by kernel_rfl) (by kernel_rfl) (by kernel_rfl) (by kernel_rfl) (fun _ _ _ h => h) (Or.inr ⟨by rfl, rfl⟩) hH ?_
        try simp only [Act.put, zA0, zZ0, zS0]
        refine wpAnyX_take (i := 6) (v := undef) rfl (by kernel_rfl) (by kernel_rfl) (by kernel_rfl) (by kernel_rfl) (fun _ _ _ h => h) (Or.inr ⟨by rfl, rfl⟩) hH ?_
        try simp only [Act.put, zA0, zZ0, zS0]
        refine wpAnyX_take (i := 7) (v := undef) rfl (by kernel_rfl) (by kernel_rfl) (by kernel_rfl) (by kernel_rfl) (fun _ _ _ h => h) (Or.inr ⟨by rfl, rfl⟩) hH ?_
        try simp only [Act.put, zA0, zZ0, zS0]
        refine wpAnyX_take (i := 8) (v := undef) rfl (by kernel_rfl) (by kernel_rfl) (by kernel_rfl) (by kernel_rfl) (fun _ _ _ h => h) (Or.inr ⟨by rfl, rfl⟩) hH ?_
        try simp only [Act.put, zA0, zZ0, zS0]
        refine wpAnyX_take (i := 9) (v := undef) rfl (by kernel_rfl) (by kernel_rfl) (by kernel_rfl) (by kernel_rfl) (fun _ _ _ h => h) (Or.inr ⟨by rfl, rfl⟩) hH ?_
        try simp only [Act.put, zA0, zZ0, zS0]
        refine wpAnyX_take (i := 10) (v := undef) rfl (by kernel_rfl) (by kernel_rfl) (by kernel_rfl) (by kernel_rfl) (fun _ _ _ h => h) (Or.inr ⟨by rfl, rfl⟩) hH ?_
        try simp only [Act.put, zA0, zZ0, zS0]
        refine wpAnyX_take (i := 11) (v := undef) rfl (by kernel_rfl) (by kernel_rfl) (by kernel_rfl) (by kernel_rfl) (fun _ _ _ h => h) (Or.inr ⟨by rfl, rfl⟩) hH ?_
        try simp only [Act.put, zA0, zZ0, zS0]
        refine wpAnyX_take (i := 12) (v := undef) rfl (by kernel_rfl) (by kernel_rfl) (by kernel_rfl) (by kernel_rfl) (fun _ _ _ h => h) (Or.inr ⟨by rfl, rfl⟩) hH ?_
        try simp only [Act.put, zA0, zZ0, zS0]
        refine wpAnyX_take (i := 13) (v := undef) rfl (by kernel_rfl) (by kernel_rfl) (by kernel_rfl) (by kernel_rfl) (fun _ _ _ h => h) (Or.inr ⟨by rfl, rfl⟩) hH ?_
        try simp only [Act.put, zA0, zZ0, zS0]
        refine wpAnyX_take (i := 14) (v := undef) rfl (by kernel_rfl) (by kernel_rfl) (by kernel_rfl) (by kernel_rfl) (fun _ _ _ h => h) (Or.inr ⟨by rfl, rfl⟩) hH ?_
        try simp only [Act.put, zA0, zZ0, zS0]
        refine wpAnyX_take (i := 15) (v := undef) rfl (by kernel_rfl) (by kernel_rfl) (by kernel_rfl) (by kernel_rfl) (fun _ _ _ h => h) (Or.inr ⟨by rfl, rfl⟩) hH ?_
        try simp only [Act.put, zA0, zZ0, zS0]
        refine wpAnyX_take (i := 16) (v := undef) rfl (by kernel_rfl) (by kernel_rfl) (by kernel_rfl) (by kernel_rfl) (fun _ _ _ h => h) (Or.inr ⟨by rfl, rfl⟩) hH ?_
        try simp only [Act.put, zA0, zZ0, zS0]
        refine wpAnyX_take (i := 17) (v := undef) rfl (by kernel_rfl) (by kernel_rfl) (by kernel_rfl) (by kernel_rfl) (fun _ _ _ h => h) (Or.inr ⟨by rfl, rfl⟩) hH ?_
        try simp only [Act.put, zA0, zZ0, zS0]
        refine wpZ 18 hH ?_
        refine wpAnyX_done (by kernel_rfl) ?_
        clear hH
        go_wp2_with fail
        go_roundw
        case rel =>
          refine ⟨cnt, i - 1, j, 1, rfl, by rw [show (i : Int) - 1 = ((i - 1 : Nat) : Int) by omega], rfl, rfl, by omega, ?_⟩
          have hl' : L.length + (i + j) ≤ n + m := by rw [← HLL.out]; exact hll
          have ho' : OwnR w6.drew w.heap.size 3 1 (.slice (some ⟨g', o', none⟩) (ll + 1) cap') (L.length + 1) (numV L ++ [.int .i64 ((1 : Nat) : Int)]) := by
            rw [← HLL.out]; exact HO6.out.drewN 1
          have hb' : Below w.heap.size w w6.drew := belDrewN HB6.out 1
          refine ScI.step (wx := wr) (w' := w6.drew) (sv := .slice ao ll c) (sv' := .slice (some ⟨g', o', none⟩) (ll + 1) cap') (cnt := cnt) (i := i) (j := j) (x := x) (y := 1) L f' hx hi hj hf hp hl' HY.out ?_ ?_ HP1.out HP2.out ho' hb' (cnt) (i - 1) (j) ?_ ?_ ?_
          · intro h; omega
          · intro h; exact absurd rfl h
          · rw [if_neg (by decide)]
          · rw [if_pos rfl]
          · rw [if_neg (fun h => absurd h.1 (by decide))]; rfl
        case measure => simp [RowKit.intOf]; omega
      · have h0j := hrch.2.2 rfl
        clear hrch
        have hcw : IntKind.i64.wrap ((cnt : Int) + 1) = (cnt : Int) + 1 := by rw [IntKind.wrap_i64]; omega
        have hjw : IntKind.i64.wrap ((j : Int) - 1) = (j : Int) - 1 := by rw [IntKind.wrap_i64]; omega
        have h0iI : (0 : Int) < i := by omega
        have fl0 : ∀ W, (Instr.field 234 (.agg #[.int .i64 2, .int .i64 a]) 0).run Tryz.prog W = .ok (.int .i64 2) W := fun _ => by kernel_rfl
        go_upto_region 12 with (first | (go_at_call 134; refine (cA _).mono ?_; rintro e w5 ⟨rfl, hb5⟩; have HB5 : Hid (Below wr.heap.size wr w5) := hb5; have hs5 := hb5.size; clear hb5) | (at_builtin; go_must (refine wpList_own _ rfl (.tmp 38) (.tmp 40) 186 rfl 3 i3 _ 1 8 Tryz.underlying186 hi3 hz0 hz1 hz2 rfl (by decide) w.heap.size (.slice ao ll c) ll (numV L) rfl (by exact (HOWN.out.other (fun g _ hlt => HB5.out.block g hlt)).alloc _) ⟨w5.heap.size, 0, none⟩ 1 [.int .i64 (2 : Nat)] rfl rfl (by exact box_at w5 [.int .i64 (2 : Nat)] 3 _ rfl) (int_oneCell _ _) (by unfold maxLen; omega) (by omega) (by simp; omega) ?_; intro g' o' cap' w6 hown6 hfr6; have HO6 : Hid (OwnR w6 w.heap.size 3 1 (.slice (some ⟨g', o', none⟩) (ll + 1) cap') (ll + 1) (numV L ++ [.int .i64 (2 : Nat)])) := hown6; have HB6 : Hid (Below w.heap.size w w6) := (HBEL.out.trans (HB5.out.mono (by omega))).trans (((Below.refl _ w5).alloc (by omega) _).trans (hfr6.below (fun g hg => (HOWN.out.lt hg).1) (by simp; omega))); clear hown6 hfr6)))
        refine wp_region_X 19 (fun W => True) (by kernel_rfl) trivial (fun hH => ?_)
        refine wpZ 0 hH ?_
        refine wpZ 1 hH ?_
        refine wpZ 2 hH ?_
        refine wpAnyX_take (i := 3) (v := undef) rfl (by kernel_rfl) (by kernel_rfl) (by kernel_rfl) (by kernel_rfl) (fun _ _ _ h => h) (Or.inr ⟨by rfl, rfl⟩) hH ?_
        try simp only [Act.put, zA0, zZ0, zS0]
        refine wpAnyX_take (i := 4) (v := undef) rfl (by kernel_rfl) (by kernel_rfl) (by kernel_rfl) (by kernel_rfl) (fun _ _ _ h => h) (Or.inr ⟨by rfl, rfl⟩) hH ?_
        try simp only [Act.put, zA0, zZ0, zS0]
        refine wpAnyX_take (i := 5) (v := undef) rfl (by kernel_rfl) (by kernel_rfl) (by kernel_rfl) (by kernel_rfl) (fun _ _ _ h => h) (Or.inr ⟨by rfl, rfl⟩) hH ?_
        try simp only [Act.put, zA0, zZ0, zS0]
        refine wpAnyX_take (i := 6) (v := undef) rfl (by kernel_rfl) (by kernel_rfl) (by kernel_rfl) (by kernel_rfl) (fun _ _ _ h => h) (Or.inr ⟨by rfl, rfl⟩) hH ?_
        try simp only [Act.put, zA0, zZ0, zS0]
        refine wpAnyX_take (i := 7) (v := undef) rfl (by kernel_rfl) (by kernel_rfl) (by kernel_rfl) (by kernel_rfl) (fun _ _ _ h => h) (Or.inr ⟨by rfl, rfl⟩) hH ?_
        try simp only [Act.put, zA0, zZ0, zS0]
        refine wpAnyX_take (i := 8) (v := undef) rfl (by kernel_rfl) (by kernel_rfl) (by kernel_rfl) (by kernel_rfl) (fun _ _ _ h => h) (Or.inr ⟨by rfl, rfl⟩) hH ?_
        try simp only [Act.put, zA0, zZ0, zS0]
        refine wpAnyX_take (i := 9) (v := undef) rfl (by kernel_rfl) (by kernel_rfl) (by kernel_rfl) (by kernel_rfl) (fun _ _ _ h => h) (Or.inr ⟨by rfl, rfl⟩) hH ?_
        try simp only [Act.put, zA0, zZ0, zS0]
        refine wpAnyX_take (i := 10) (v := undef) rfl (by kernel_rfl) (by kernel_rfl) (by kernel_rfl) (by kernel_rfl) (fun _ _ _ h => h) (Or.inr ⟨by rfl, rfl⟩) hH ?_
        try simp only [Act.put, zA0, zZ0, zS0]
        refine wpAnyX_take (i := 11) (v := undef) rfl (by kernel_rfl) (by kernel_rfl) (by kernel_rfl) (by kernel_rfl) (fun _ _ _ h => h) (Or.inr ⟨by rfl, rfl⟩) hH ?_
        try simp only [Act.put, zA0, zZ0, zS0]
        refine wpAnyX_take (i := 12) (v := undef) rfl (by kernel_rfl) (by kernel_rfl) (by kernel_rfl) (by kernel_rfl) (fun _ _ _ h => h) (Or.inr ⟨by rfl, rfl⟩) hH ?_
        try simp only [Act.put, zA0, zZ0, zS0]
        refine wpAnyX_take (i := 13) (v := undef) rfl (by kernel_rfl) (by kernel_rfl) (by kernel_rfl) (by kernel_rfl) (fun _ _ _ h => h) (Or.inr ⟨by rfl, rfl⟩) hH ?_
        try simp only [Act.put, zA0, zZ0, zS0]
        refine wpAnyX_take (i := 14) (v := undef) rfl (by kernel_rfl) (by kernel_rfl) (by kernel_rfl) (by kernel_rfl) (fun _ _ _ h => h) (Or.inr ⟨by rfl, rfl⟩) hH ?_
        try simp only [Act.put, zA0, zZ0, zS0]
        refine wpAnyX_take (i := 15) (v := undef) rfl (by kernel_rfl) (by kernel_rfl) (by kernel_rfl) (by kernel_rfl) (fun _ _ _ h => h) (Or.inr ⟨by rfl, rfl⟩) hH ?_
        try simp only [Act.put, zA0, zZ0, zS0]
        refine wpAnyX_take (i := 16) (v := undef) rfl (by kernel_rfl) (by kernel_rfl) (by kernel_rfl) (by kernel_rfl) (fun _ _ _ h => h) (Or.inr ⟨by rfl, rfl⟩) hH ?_
        try simp only [Act.put, zA0, zZ0, zS0]
        refine wpAnyX_take (i := 17) (v := undef) rfl (by kernel_rfl) (by kernel_rfl) (by kernel_rfl) (by kernel_rfl) (fun _ _ _ h => h) (Or.inr ⟨by rfl, rfl⟩) hH ?_
        try simp only [Act.put, zA0, zZ0, zS0]
        refine wpZ 18 hH ?_
        refine wpAnyX_done (by kernel_rfl) ?_
        clear hH
        go_wp2_with fail
        go_roundw
        case rel =>
          refine ⟨cnt, i, j - 1, 2, rfl, rfl, by rw [show (j : Int) - 1 = ((j - 1 : Nat) : Int) by omega], rfl, by omega, ?_⟩
          have hl' : L.length + (i + j) ≤ n + m := by rw [← HLL.out]; exact hll
          have ho' : OwnR w6.drew w.heap.size 3 1 (.slice (some ⟨g', o', none⟩) (ll + 1) cap') (L.length + 1) (numV L ++ [.int .i64 ((2 : Nat) : Int)]) := by
            rw [← HLL.out]; exact HO6.out.drewN 1
          have hb' : Below w.heap.size w w6.drew := belDrewN HB6.out 1
          refine ScI.step (wx := wr) (w' := w6.drew) (sv := .slice ao ll c) (sv' := .slice (some ⟨g', o', none⟩) (ll + 1) cap') (cnt := cnt) (i := i) (j := j) (x := x) (y := 2) L f' hx hi hj hf hp hl' HY.out ?_ ?_ HP1.out HP2.out ho' hb' (cnt) (i) (j - 1) ?_ ?_ ?_
          · intro h; exact absurd rfl h
          · intro h; omega
          · rw [if_pos rfl]
          · rw [if_neg (by decide)]
          · rw [if_neg (fun h => absurd h.1 (by decide))]; rfl
        case measure => simp [RowKit.intOf]; omega
      · have h0j := hrch.2.2 rfl
        clear hrch
        have hcw : IntKind.i64.wrap ((cnt : Int) + 1) = (cnt : Int) + 1 := by rw [IntKind.wrap_i64]; omega
        have hjw : IntKind.i64.wrap ((j : Int) - 1) = (j : Int) - 1 := by rw [IntKind.wrap_i64]; omega
        have h0jI : (0 : Int) < j := by omega
        have fl0 : ∀ W, (Instr.field 234 (.agg #[.int .i64 2, .int .i64 a]) 0).run Tryz.prog W = .ok (.int .i64 2) W := fun _ => by kernel_rfl
        simp only [Nat.add_zero] at cwi
        go_upto_region 12 with (first | (go_at_call 134; refine (cA _).mono ?_; rintro e w5 ⟨rfl, hb5⟩; have HB5 : Hid (Below wr.heap.size wr w5) := hb5; have hs5 := hb5.size; clear hb5) | (at_builtin; go_must (refine wpList_own _ rfl (.tmp 38) (.tmp 40) 186 rfl 3 i3 _ 1 8 Tryz.underlying186 hi3 hz0 hz1 hz2 rfl (by decide) w.heap.size (.slice ao ll c) ll (numV L) rfl (by exact (HOWN.out.other (fun g _ hlt => HB5.out.block g hlt)).alloc _) ⟨w5.heap.size, 0, none⟩ 1 [.int .i64 (2 : Nat)] rfl rfl (by exact box_at w5 [.int .i64 (2 : Nat)] 3 _ rfl) (int_oneCell _ _) (by unfold maxLen; omega) (by omega) (by simp; omega) ?_; intro g' o' cap' w6 hown6 hfr6; have HO6 : Hid (OwnR w6 w.heap.size 3 1 (.slice (some ⟨g', o', none⟩) (ll + 1) cap') (ll + 1) (numV L ++ [.int .i64 (2 : Nat)])) := hown6; have HB6 : Hid (Below w.heap.size w w6) := (HBEL.out.trans (HB5.out.mono (by omega))).trans (((Below.refl _ w5).alloc (by omega) _).trans (hfr6.below (fun g hg => (HOWN.out.lt hg).1) (by simp; omega))); clear hown6 hfr6)))
        refine wp_region_X 19 (fun W => True) (by kernel_rfl) trivial (fun hH => ?_)
        refine wpZ 0 hH ?_
        refine wpZ 1 hH ?_
        refine wpZ 2 hH ?_
        refine wpAnyX_take (i := 3) (v := undef) rfl (by kernel_rfl) (by kernel_rfl) (by kernel_rfl) (by kernel_rfl) (fun _ _ _ h => h) (Or.inr ⟨by rfl, rfl⟩) hH ?_
        try simp only [Act.put, zA0, zZ0, zS0]
        refine wpAnyX_take (i := 4) (v := undef) rfl (by kernel_rfl) (by kernel_rfl) (by kernel_rfl) (by kernel_rfl) (fun _ _ _ h => h) (Or.inr ⟨by rfl, rfl⟩) hH ?_
        try simp only [Act.put, zA0, zZ0, zS0]
        refine wpAnyX_take (i := 5) (v := undef) rfl (by kernel_rfl) (by kernel_rfl) (by kernel_rfl) (by kernel_rfl) (fun _ _ _ h => h) (Or.inr ⟨by rfl, rfl⟩) hH ?_
        try simp only [Act.put, zA0, zZ0, zS0]
        refine wpAnyX_take (i := 6) (v := undef) rfl (by kernel_rfl) (by kernel_rfl) (by kernel_rfl) (by kernel_rfl) (fun _ _ _ h => h) (Or.inr ⟨by rfl, rfl⟩) hH ?_
        try simp only [Act.put, zA0, zZ0, zS0]
        refine wpAnyX_take (i := 7) (v := undef) rfl (by kernel_rfl) (by kernel_rfl) (by kernel_rfl) (by kernel_rfl) (fun _ _ _ h => h) (Or.inr ⟨by rfl, rfl⟩) hH ?_
        try simp only [Act.put, zA0, zZ0, zS0]
        refine wpAnyX_take (i := 8) (v := undef) rfl (by kernel_rfl) (by kernel_rfl) (by kernel_rfl) (by kernel_rfl) (fun _ _ _ h => h) (Or.inr ⟨by rfl, rfl⟩) hH ?_
        try simp only [Act.put, zA0, zZ0, zS0]
        refine wpAnyX_take (i := 9) (v := undef) rfl (by kernel_rfl) (by kernel_rfl) (by kernel_rfl) (by kernel_rfl) (fun _ _ _ h => h) (Or.inr ⟨by rfl, rfl⟩) hH ?_
        try simp only [Act.put, zA0, zZ0, zS0]
        refine wpAnyX_take (i := 10) (v := undef) rfl (by kernel_rfl) (by kernel_rfl) (by kernel_rfl) (by kernel_rfl) (fun _ _ _ h => h) (Or.inr ⟨by rfl, rfl⟩) hH ?_
        try simp only [Act.put, zA0, zZ0, zS0]
        refine wpAnyX_take (i := 11) (v := undef) rfl (by kernel_rfl) (by kernel_rfl) (by kernel_rfl) (by kernel_rfl) (fun _ _ _ h => h) (Or.inr ⟨by rfl, rfl⟩) hH ?_
        try simp only [Act.put, zA0, zZ0, zS0]
        refine wpAnyX_take (i := 12) (v := undef) rfl (by kernel_rfl) (by kernel_rfl) (by kernel_rfl) (by kernel_rfl) (fun _ _ _ h => h) (Or.inr ⟨by rfl, rfl⟩) hH ?_
        try simp only [Act.put, zA0, zZ0, zS0]
        refine wpAnyX_take (i := 13) (v := undef) rfl (by kernel_rfl) (by kernel_rfl) (by kernel_rfl) (by kernel_rfl) (fun _ _ _ h => h) (Or.inr ⟨by rfl, rfl⟩) hH ?_
        try simp only [Act.put, zA0, zZ0, zS0]
        refine wpAnyX_take (i := 14) (v := undef) rfl (by kernel_rfl) (by kernel_rfl) (by kernel_rfl) (by kernel_rfl) (fun _ _ _ h => h) (Or.inr ⟨by rfl, rfl⟩) hH ?_
        try simp only [Act.put, zA0, zZ0, zS0]
        refine wpAnyX_take (i := 15) (v := undef) rfl (by kernel_rfl) (by kernel_rfl) (by kernel_rfl) (by kernel_rfl) (fun _ _ _ h => h) (Or.inr ⟨by rfl, rfl⟩) hH ?_
        try simp only [Act.put, zA0, zZ0, zS0]
        refine wpAnyX_take (i := 16) (v := undef) rfl (by kernel_rfl) (by kernel_rfl) (by kernel_rfl) (by kernel_rfl) (fun _ _ _ h => h) (Or.inr ⟨by rfl, rfl⟩) hH ?_
        try simp only [Act.put, zA0, zZ0, zS0]
        refine wpAnyX_take (i := 17) (v := undef) rfl (by kernel_rfl) (by kernel_rfl) (by kernel_rfl) (by kernel_rfl) (fun _ _ _ h => h) (Or.inr ⟨by rfl, rfl⟩) hH ?_
        try simp only [Act.put, zA0, zZ0, zS0]
        refine wpZ 18 hH ?_
        refine wpAnyX_done (by kernel_rfl) ?_
        clear hH
        go_wp2_with fail
        go_roundw
        case rel =>
          refine ⟨cnt, 0, j - 1, 2, rfl, rfl, by rw [show (j : Int) - 1 = ((j - 1 : Nat) : Int) by omega], rfl, by omega, ?_⟩
          have hl' : L.length + (0 + j) ≤ n + m := by rw [← HLL.out]; exact hll
          have ho' : OwnR w6.drew w.heap.size 3 1 (.slice (some ⟨g', o', none⟩) (ll + 1) cap') (L.length + 1) (numV L ++ [.int .i64 ((2 : Nat) : Int)]) := by
            rw [← HLL.out]; exact HO6.out.drewN 1
          have hb' : Below w.heap.size w w6.drew := belDrewN HB6.out 1
          refine ScI.step (wx := wr) (w' := w6.drew) (sv := .slice ao ll c) (sv' := .slice (some ⟨g', o', none⟩) (ll + 1) cap') (cnt := cnt) (i := 0) (j := j) (x := x) (y := 2) L f' hx hi hj hf hp hl' HY.out ?_ ?_ HP1.out HP2.out ho' hb' (cnt) (0) (j - 1) ?_ ?_ ?_
          · intro h; exact absurd rfl h
          · intro h; omega
          · rw [if_pos rfl]
          · rw [if_neg (by decide)]
          · rw [if_neg (fun h => absurd h.1 (by decide))]; rfl
        case measure => simp [RowKit.intOf]; omega
    · have hi0 : i = 0 := by omega
      have hj0 : j = 0 := by omega
      subst hi0
      subst hj0
      have hpe : path 1048576 (uN R F) f 0 0 x = [] := by
        cases f with
        | zero => rfl
        | succ f => rw [path]; rfl
      rw [hpe] at hp1 hp2
      rw [List.append_nil] at hp1
      simp only [cntB, Nat.add_zero] at hp2
      have HP1 : Hid (L = path 1048576 (uN R F) (n + m) n m 0) := hp1
      have HP2 : Hid (cnt = cntB (sN R F) (path 1048576 (uN R F) (n + m) n m 0) n m) := hp2
      have HBEL : Hid (Below w.heap.size w wr) := hbel
      obtain ⟨ll, hll2⟩ : ∃ ll, ll = L.length := ⟨_, rfl⟩
      have HLL : Hid (ll = L.length) := hll2
      rw [← hll2] at hown hll ⊢
      have HOWN : Hid (OwnR wr w.heap.size 3 1 (.slice ao ll c) ll (numV L)) := hown
      clear hp1 hp2 hpe hbel hll2 hown
      rcases Nat.eq_zero_or_pos ll with rfl | hlp
      · go_wp2_with (go_at_call 137; refine (rev_nil ao c _).mono ?_; rintro e w9 ⟨rfl, rfl⟩)
        go_ret2
        have hL0 : L = [] := List.eq_nil_of_length_eq_zero HLL.out.symm
        refine ⟨.slice ao 0 c, ?_, ?_, HBEL.out⟩
        · rw [← HP2.out]; rfl
        · rw [← HP1.out, ← HLL.out, hL0, List.reverse_nil]
          have := HOWN.out
          rw [hL0] at this
          exact this
      · obtain ⟨g, o, c', hv, hg1, hg2⟩ := HOWN.out.addr hlp
        have hv2 : ao = some ⟨g, o, none⟩ ∧ c = c' := by simpa using hv
        obtain ⟨rfl, rfl⟩ := hv2
        clear hv
        go_wp2_with (go_at_call 137; refine (rev_any L ll HLL.out.symm (by omega) w.heap.size g o c _ HOWN.out).mono ?_; rintro e w9 ⟨rfl, hr9, hb9⟩)
        go_ret2
        refine ⟨.slice (some ⟨g, o, none⟩) ll c, ?_, ?_, HBEL.out.trans (hb9.mono hg1)⟩
        · rw [← HP2.out]; rfl
        · rw [← HP1.out, ← HLL.out]
          exact hr9
end Go.Proofs.YtilcmkiihefkkabGreatDoor
end
section
set_option linter.unusedVariables false
set_option linter.unusedSimpArgs false
set_option maxRecDepth 100000
namespace Go.Proofs.YtilcmkiihefkkabGreatDoor
open Go.RowKit Go.Shelf
/-- the numbers of bases -/
def nums (l : List UInt8) : List Nat := l.map fun c => (numb c).toNat
theorem nums_length (l : List UInt8) : (nums l).length = l.length := by simp [nums]
theorem nums_get (s : ByteArray) (j : Nat) (h : j < s.size) : (nums s.data.toList).getD j 9 = (numb s[j]).toNat := by
  have h' : j < s.data.toList.length := by simpa using h
  unfold nums
  rw [List.getD_eq_getElem?_getD, List.getElem?_map, List.getElem?_eq_getElem h']
  rfl
theorem nums_take (s : ByteArray) (k : Nat) (h : k < s.size) : (nums s.data.toList).take (k + 1) = (nums s.data.toList).take k ++ [(numb s[k]).toNat] := by
  have h' : k < (nums s.data.toList).length := by rw [nums_length]; simpa using h
  rw [List.take_succ_eq_append_getElem h', ← nums_get s k h]
  simp [h']
/-- the letters of the program's script, from the end -/
def pth (R F : List Nat) : List Nat := path 1048576 (uN R F) (R.length + F.length) R.length F.length 0
theorem path_len (N : Int) (u : Nat → Nat → Int) : ∀ f i j x, (path N u f i j x).length ≤ f
  | 0, _, _, _ => Nat.le_refl _
  | f + 1, i, j, x => by
    rw [path]
    split
    · exact Nat.zero_le _
    · simp only [List.length_cons]
      have := path_len N u f (if nx (cel N u i j) x = 2 then i else i - 1) (if nx (cel N u i j) x = 1 then j else j - 1) (nx (cel N u i j) x)
      omega
theorem path_le (N : Int) (u : Nat → Nat → Int) : ∀ f i j x, ∀ y ∈ path N u f i j x, y ≤ 2
  | 0, _, _, _, y, h => by cases h
  | f + 1, i, j, x, y, h => by
    rw [path] at h
    split at h
    · cases h
    · rcases List.mem_cons.1 h with rfl | h
      · exact nx_le _ _
      · exact path_le N u f _ _ _ y h
/-- what Script tells -/
def scE (read ref : List UInt8) : Nat := if read.length > 300 ∨ ref.length > 600 then 1 else if (∀ c ∈ read, 0 ≤ numb c) ∧ (∀ c ∈ ref, 0 ≤ numb c) then 0 else 2
def scT (read ref : List UInt8) : List UInt8 := if scE read ref = 0 then rtxt (rl (pth (nums read) (nums ref)).reverse (pth (nums read) (nums ref)).length).2 else []
def scN (read ref : List UInt8) : Nat := if scE read ref = 0 then cntB (sN (nums read) (nums ref)) (pth (nums read) (nums ref)) (nums read).length (nums ref).length else 0
theorem good_iff (s : ByteArray) : good s ↔ ∀ c ∈ s.data.toList, 0 ≤ numb c := by
  constructor
  · intro h c hc
    obtain ⟨j, hj, rfl⟩ := List.getElem_of_mem hc
    exact h j (by simpa using hj)
  · intro h j hj
    exact h _ (by
      have : s[j] = s.data.toList[j]'(by simpa using hj) := rfl
      rw [this]; exact List.getElem_mem _)
/-- while the columns are made -/
def ClI (F : List Nat) (w : World) (B : Nat) (vw : Value) (k : Nat) (wx : World) : Prop :=
  ∃ vr v0, wx.heap[B]? = some (.cells #[.slice none 0 0, vr, vw] 232 (0, 0)) ∧ OwnR wx w.heap.size 3 1 vr k (numV (F.take k)) ∧ OwnR wx w.heap.size 227 1 vw 1 [v0] ∧
    OwnR wx w.heap.size 229 3 v0 (k + 1) (celsL (row0 1048576) (k + 1)) ∧ Below w.heap.size w wx
theorem enterCol (args : Array Value) (w : World) : (callFunc 96 args).run Tryz.prog w = .ok (.enter 96 args) w := enters_of Tryz.func96 (by kernel_rfl) rfl args w
theorem enterRow (args : Array Value) (w : World) : (callFunc 97 args).run Tryz.prog w = .ok (.enter 97 args) w := enters_of Tryz.func97 (by kernel_rfl) rfl args w
theorem ClI.step (ref : ByteArray) (w : World) (B : Nat) (vw : Value) (hB : w.heap.size ≤ B) (hm : ref.size ≤ 600) (k : Nat) (hk : k < ref.size) (wx : World) (hn : 0 ≤ numb ref[k]) (h : ClI (nums ref.data.toList) w B vw k wx) :
    Calls Tryz.prog 96 #[.pointer (some ⟨B, 0, none⟩), .int .i64 k, .int .i64 (numb ref[k])] wx fun e w' => e = .returned (.tuple #[]) ∧ ClI (nums ref.data.toList) w B vw (k + 1) w' := by
  obtain ⟨vr, v0, h1, h2, h3, h4, h5⟩ := h
  have hl := numb_lt ref[k]
  obtain ⟨x, hx⟩ : ∃ x : Nat, numb ref[k] = x := ⟨(numb ref[k]).toNat, by omega⟩
  have hok := cel_okB [] [] 0 k (by omega) (by omega)
  have hcel : cel 1048576 (uN [] []) 0 k = row0 1048576 k := rfl
  rw [hcel] at hok
  have hav := hok.av 2
  have hc := col_any w.heap.size B k x (row0 1048576) ((nums ref.data.toList).take k) (.slice none 0 0) vr vw v0 wx (by omega) (by omega) hB hok.big ⟨by omega, hav.1⟩ h1 h2 h3 h4
  rw [hx]
  refine hc.mono ?_
  rintro e w' ⟨rfl, vr', v0', g1, g2, g3, g4, g5⟩
  refine ⟨rfl, vr', v0', g1, ?_, g3, ?_, h5.trans g5⟩
  · rw [nums_take ref k hk, hx]; exact g2
  · rw [celsL_succ]; exact g4
/-- while the rows are made -/
def RwI (R F : List Nat) (w : World) (B : Nat) (vf : Value) (k : Nat) (wx : World) : Prop :=
  ∃ vr vw VS, wx.heap[B]? = some (.cells #[vr, vf, vw] 232 (0, 0)) ∧ OwnR wx w.heap.size 3 1 vr k (numV (R.take k)) ∧ OwnR wx w.heap.size 3 1 vf F.length (numV F) ∧ OwnR wx w.heap.size 227 1 vw (k + 1) VS ∧
    (∀ i, i ≤ k → ∃ v, VS[i]? = some v ∧ OwnR wx w.heap.size 229 3 v (F.length + 1) (celsL (cel 1048576 (uN R F) i) (F.length + 1))) ∧ (∀ g, vr.ownBlock = some g → vf.ownBlock ≠ some g) ∧ Below w.heap.size w wx
theorem RwI.step (read : ByteArray) (F : List Nat) (w : World) (B : Nat) (vf : Value) (hB : w.heap.size ≤ B) (hn : read.size ≤ 300) (hm : F.length ≤ 600) (k : Nat) (hk : k < read.size) (wx : World) (hp : 0 ≤ numb read[k]) (h : RwI (nums read.data.toList) F w B vf k wx) :
    Calls Tryz.prog 97 #[.pointer (some ⟨B, 0, none⟩), .int .i64 k, .int .i64 (numb read[k])] wx fun e w' => e = .returned (.tuple #[]) ∧ RwI (nums read.data.toList) F w B vf (k + 1) w' := by
  obtain ⟨vr, vw, VS, h1, h2, h3, h4, h5, h6, h7⟩ := h
  have hl := numb_lt read[k]
  obtain ⟨x, hx⟩ : ∃ x : Nat, numb read[k] = x := ⟨(numb read[k]).toNat, by omega⟩
  obtain ⟨va, hva, ha⟩ := h5 k (Nat.le_refl _)
  have hxg : x = (nums read.data.toList).getD k 9 := by rw [nums_get read k hk, hx]; rfl
  have hvl : VS.length = k + 1 := by have := h4.1; omega
  have hc := row_any w.heap.size B k x F.length (cel 1048576 (uN (nums read.data.toList) F) k) (cel 1048576 (uN (nums read.data.toList) F) (k + 1)) F ((nums read.data.toList).take k) vr vf vw va VS wx rfl hm (by omega) hB
    (by rw [hxg]; rfl) (fun t ht => cel_okB _ _ k t (by omega) (by omega)) (fun t ht => cel_okB _ _ (k + 1) t (by omega) (by omega)) h1 h2 h3 h4 hva ha h6
  rw [hx]
  refine hc.mono ?_
  rintro e w' ⟨rfl, vr', vw', vn, g1, g2, g3, g4, g5, g6, g7, g8⟩
  refine ⟨rfl, vr', vw', VS ++ [vn], g1, ?_, g3, g4, fun i hi => ?_, g6, h7.trans g8⟩
  · rw [nums_take read k hk, hx]; exact g2
  · by_cases hik : i ≤ k
    · obtain ⟨v, hv, ho⟩ := h5 i hik
      exact ⟨v, by rw [List.getElem?_append_left (by omega)]; exact hv, g7 v _ _ ho⟩
    · have hi1 : i = k + 1 := by omega
      subst hi1
      refine ⟨vn, ?_, g5⟩
      rw [List.getElem?_append_right (by omega), hvl]
      simp
end Go.Proofs.YtilcmkiihefkkabGreatDoor
end
