import Derived.Test.YtilcmkiihefkkaaGreatDoorJt47
section
set_option linter.unusedVariables false
set_option linter.unusedSimpArgs false
set_option maxRecDepth 100000
namespace Go.Proofs.YtilcmkiihefkkaaGreatDoor.Mn
open Go.RowKit Go.Shelf Go.Lib
attribute [local go_sem] run_store_flt
set_option maxHeartbeats 8000000 in
theorem checked_sf (rd ra rb pc pl : ByteArray) (fr tl st en k W sc g o cp : Nat) (sq oq : Int) (w : World)
    (hra : w.cell? ⟨g, o, none⟩ = some (.string ra)) (hrb : w.cell? ⟨g, o + 1, none⟩ = some (.string rb))
    (hpc : pc = rd.extract fr tl) (hpl : pl = rb.extract st en)
    (h1 : fr + k ≤ tl) (h2 : tl ≤ rd.size) (h2b : rd.size ≤ 300) (h3 : st + k ≤ en) (h4 : en ≤ rb.size) (h5 : rb.size ≤ 600) (hk1 : 1 ≤ k) (hk2 : k ≤ 12)
    (hw0 : pc.extract 0 k = pl.extract 0 k) (hw1 : pc.extract (pc.size - k) pc.size = pl.extract (pl.size - k) pl.size) (hps : pc.size = tl - fr)
    (gp : _root_.Go.Proofs.YtilcmkiihefkkaaGreatDoor.good pc) (gl : _root_.Go.Proofs.YtilcmkiihefkkaaGreatDoor.good pl)
    (hsc : FloatKind.f64.format.order (fq sq) sc ≠ some .lt) (hq1 : 4 * (k : Int) ≤ sq) (hq2 : sq ≤ 100000) (hq3 : 0 ≤ oq) (hq4 : oq ≤ sq)
    (htab : Lib.TabBelow Tryz.prog w.heap.size w "internal/strconv.uint64pow10" .u64 Lib.pow10Tab) :
    Calls Tryz.prog 22 #[.agg #[.string ⟨#[114]⟩, .int .i64 fr, .int .i64 tl, .bool false, .string ⟨#[98]⟩, .int .i64 st, .int .i64 en, .float .f64 (fq sq), .float .f64 (fq oq), .int .i64 (qual sq oq), .string ⟨(scT pc.data.toList pl.data.toList).toArray⟩, .int .i64 (scN pc.data.toList pl.data.toList : Nat), .float .f64 (shr (scN pc.data.toList pl.data.toList) (scLn pc.data.toList pl.data.toList))], .string rd, .slice (some ⟨g, o, none⟩) 2 cp, .agg #[.int .i64 k, .int .i64 W, .float .f64 sc]] w fun e w' => e = .returned (.bool true) ∧ Below w.heap.size w w' := by
  have hpls : pl.size = en - st := by rw [hpl, ByteArray.size_extract]; omega
  obtain ⟨hE, hT, hN⟩ := scT_fwd gp gl (by omega) (by omega)
  have hok := scLn_ok pc.data.toList pl.data.toList hE
  have hlF : scLn pc.data.toList pl.data.toList = (fwd pc pl).length := by
    have := pth_fwd gp gl (by omega) (by omega)
    unfold scLn
    rw [← List.length_reverse, this]
  have cS := fun (W1 : World) (hw : Below w.heap.size w W1) => pscript_any pc pl W1 (by omega) (by omega) (tabOnM htab hw)
  obtain ⟨la, hpst⟩ := rtxt_pst (fwd pc pl) (fwd_le pc pl) (by have := fwd_len pc pl; omega)
  rw [← hT] at hpst
  have hTl : (scT pc.data.toList pl.data.toList).length ≤ 30 * 900 := by
    have e1 := (scRs_ok pc.data.toList pl.data.toList hE)
    have h1 := rtxt_len (scRs pc.data.toList pl.data.toList) (fun p hp => (e1.2.1 p hp).1)
    have h2 := e1.2.2.1
    have h3 : (scRs pc.data.toList pl.data.toList).length ≤ 900 := Nat.le_trans (rl_len _ _) hok.1
    rw [e1.1]
    omega
  have cL := fun W1 => lletters_any ⟨(scT pc.data.toList pl.data.toList).toArray⟩ (fwd pc pl) la (by show (scT pc.data.toList pl.data.toList).toArray.size ≤ _; rw [List.size_toArray]; omega) (by simpa using hpst) W1
  have cC := fun W1 => lcost_any (fwd pc pl) pc pl (fwd_le pc pl) (by have := fwd_len pc pl; omega) (by omega) (by omega) (fwd_end pc pl (by omega) (by omega)) W1
  have hFs : (lets (fwd pc pl)).size = (fwd pc pl).length := lets_size _
  have hsh := shr_facts (scN pc.data.toList pl.data.toList) (scLn pc.data.toList pl.data.toList) hok.2.2.1 (by have := hok.2.1; have : pc.data.toList.length = pc.size := Array.length_toList; omega) (by omega)
  obtain ⟨A, B, Q, hA, hB, hQ, _, hi, hql1, hql2, ho1, ho2⟩ := qual_facts sq oq hq3 hq4 (by omega) hq2
  rw [fq4] at hB
  rw [fq240] at hQ
  rw [hE] at cS
  rw [hN] at hsh cS ⊢
  rw [hlF] at hsh ⊢
  unfold CoP at cC
  unfold LeP at cL
  have p50 : (1048576 : Nat) ≤ 2 ^ 50 := by decide
  have p53 : (1048576 : Nat) ≤ 2 ^ 53 := by decide
  have hNl : cntF (sR pc pl) (fwd pc pl) (0, 0) ≤ (fwd pc pl).length := by rw [← hN, ← hlF]; exact hok.2.2.1
  have hLl : (fwd pc pl).length ≤ 900 := by rw [← hlF]; exact hok.1
  have x1 : FloatKind.f64.format.order (fq sq) (fq (4 * (k : Int))) = some (compare sq (4 * (k : Int))) := order_fq _ _ (by omega) (by omega)
  have x2 : FloatKind.f64.format.order (fq oq) (fq 0) = some (compare oq 0) := order_fq _ _ (by omega) (by omega)
  have x3 : FloatKind.f64.format.order (fq oq) (fq sq) = some (compare oq sq) := order_fq _ _ (by omega) (by omega)
  have y1 : (FloatKind.f64.format.order (fq sq) (fq (4 * (k : Int))) == some Ordering.lt) = false := by
    rw [x1]; exact cmp_nlt _ _ (by omega)
  have y2 : (FloatKind.f64.format.order (fq oq) 0 == some Ordering.lt) = false := by
    rw [← fq0, x2]; exact cmp_nlt _ _ (by omega)
  have y3 : (FloatKind.f64.format.order (fq oq) (fq sq) == some Ordering.gt) = false := by
    rw [x3]; exact cmp_ngt _ _ hq4
  have y0 : (FloatKind.f64.format.order (fq sq) sc == some Ordering.lt) = false := by rw [beq_eq_false_iff_ne]; exact hsc
  have f1 : floatOfInt .f64 (k : Int) = fq (4 * (k : Int)) := ofInt_fq k (by omega)
  have f2 : floatOfInt .f64 ((cntF (sR pc pl) (fwd pc pl) (0, 0) : Nat) : Int) = fq (4 * ((cntF (sR pc pl) (fwd pc pl) (0, 0) : Nat) : Int)) := ofInt_fq _ (by omega)
  have f3 : floatOfInt .f64 (((fwd pc pl).length : Nat) : Int) = fq (4 * (((fwd pc pl).length : Nat) : Int)) := ofInt_fq _ (by omega)
  have f4 : floatOfInt .f64 (qual sq oq) = fq (4 * qual sq oq) := ofInt_fq _ (by omega)
  have f5 : floatBits .add .f64 (fq (4 * qual sq oq)) (fq 4) = some (fq (4 * qual sq oq + 4)) := add_fq _ _ (by omega) (by omega) (by omega)
  rw [fq4] at f5
  have q1 : ∀ W t, (binOp .quo t (.float .f64 (fq oq)) (.float .f64 (fq sq))).run Tryz.prog W = .ok (.float .f64 A) W := fun W t => run_float_arith W .quo t .f64 _ _ _ hA
  have q2 : ∀ W t, (binOp .sub t (.float .f64 4607182418800017408) (.float .f64 A)).run Tryz.prog W = .ok (.float .f64 B) W := fun W t => run_float_arith W .sub t .f64 _ _ _ hB
  have q3 : ∀ W t, (binOp .mul t (.float .f64 B) (.float .f64 4633641066610819072)).run Tryz.prog W = .ok (.float .f64 Q) W := fun W t => run_float_arith W .mul t .f64 _ _ _ hQ
  have q5 : ∀ W t, (binOp .add t (.float .f64 (fq (4 * qual sq oq))) (.float .f64 4607182418800017408)).run Tryz.prog W = .ok (.float .f64 (fq (4 * qual sq oq + 4))) W := fun W t => run_float_arith W .add t .f64 _ _ _ f5
  have q6 := fun W t => run_float_arith (P := Tryz.prog) W .quo t .f64 _ _ _ hsh.1
  have z1 : FloatKind.f64.format.order (fq (4 * qual sq oq)) Q = some .lt ∨ FloatKind.f64.format.order (fq (4 * qual sq oq)) Q = some .eq := ho1
  have HZ1 : Hid ((FloatKind.f64.format.order (fq (4 * qual sq oq)) Q == some Ordering.lt || FloatKind.f64.format.order (fq (4 * qual sq oq)) Q == some Ordering.eq) = true) := by
    show _ = true
    rcases z1 with h | h <;> rw [h] <;> rfl
  have z2 : (FloatKind.f64.format.order Q (fq (4 * qual sq oq + 4)) == some Ordering.lt) = true := by
    show (Ieee.double.order _ _ == _) = true; rw [ho2]; rfl
  have z3 : FloatKind.f64.format.order (shr (cntF (sR pc pl) (fwd pc pl) (0, 0)) (fwd pc pl).length) (shr (cntF (sR pc pl) (fwd pc pl) (0, 0)) (fwd pc pl).length) = some .eq := hsh.2
  generalize shr (cntF (sR pc pl) (fwd pc pl) (0, 0)) (fwd pc pl).length = dv at *
  generalize cntF (sR pc pl) (fwd pc pl) (0, 0) = NF at *
  generalize (⟨(scT pc.data.toList pl.data.toList).toArray⟩ : ByteArray) = TT at *
  generalize lets (fwd pc pl) = LF at *
  generalize (fwd pc pl).length = nF at *
  generalize cst (uR pc pl) (fwd pc pl).reverse pc.size pl.size = CF at *
  generalize fq (4 * qual sq oq + 4) = e1 at *
  generalize fq (4 * qual sq oq) = e2 at *
  generalize qual sq oq = ql at *
  generalize fq (4 * (NF : Int)) = e3 at *
  generalize fq (4 * (nF : Int)) = e4 at *
  generalize fq (4 * (k : Int)) = e5 at *
  generalize fq sq = fs at *
  generalize fq oq = fo at *
  have HCS := (show Hid _ from cS)
  have HCL := (show Hid _ from cL)
  have HCC := (show Hid _ from cC)
  clear cS cL cC hpst hTl hok hsh hA hB hQ hi hq1 hq2 hq3 hq4 ho1 ho2 x1 x2 x3 f5 hlF hE hT hN hql1 hql2 gl
  have hgl : g < w.heap.size := block_lt_of_cell hra
  have b0 : ¬ (fr : Int) < 0 := by omega
  have b00 : ¬ (st : Int) < 0 := by omega
  have b1 : IntKind.i64.wrap ((tl : Int) - fr) = (tl : Int) - fr := by rw [IntKind.wrap_i64]; omega
  have b2 : ¬ (tl : Int) - fr < k := by omega
  have b3 : IntKind.i64.wrap ((en : Int) - st) = (en : Int) - st := by rw [IntKind.wrap_i64]; omega
  have b4 : ¬ (en : Int) - st < k := by omega
  have b5 : ¬ (rd.size : Int) < tl := by omega
  have b6 : ¬ (rb.size : Int) < en := by omega
  have b7 : (fr : Int) ≤ tl := by omega
  have b8 : (tl : Int) ≤ rd.size := by omega
  have b9 : (st : Int) ≤ en := by omega
  have b10 : (en : Int) ≤ rb.size := by omega
  go_enter Tryz.func22, Tryz.ntmps22
  go_wp2_with fail
  rw [← hpc, ← hpl]
  rename_i K12 hK12
  have c1 : (k : Int) ≤ pc.size := by omega
  have c2 : (k : Int) ≤ pl.size := by omega
  have c3 : IntKind.i64.wrap ((pc.size : Int) - k) = ((pc.size - k : Nat) : Int) := by rw [IntKind.wrap_i64]; omega
  have c4 : IntKind.i64.wrap ((pl.size : Int) - k) = ((pl.size - k : Nat) : Int) := by rw [IntKind.wrap_i64]; omega
  have c5 : ((pc.size - k : Nat) : Int) ≤ pc.size := by omega
  have c6 : ((pl.size - k : Nat) : Int) ≤ pl.size := by omega
  have c7 : k ≤ pc.size := by omega
  have c8 : k ≤ pl.size := by omega
  have HW0 := (show Hid _ from hw0)
  have HW1 := (show Hid _ from hw1)
  have HPS : Hid (pc.size ≤ 300 ∧ pl.size ≤ 600) := ⟨by omega, by omega⟩
  clear hpc
  clear hpl hps hpls h1 h2 h3 h4 b1 b2 b3 b4 b5 b6 b7 b8 b9 b10
  obtain ⟨wA, hwA⟩ : ∃ W1 : World, W1 = (w.alloc (Obj.cells #[Value.string { data := #[114] }, Value.int IntKind.i64 ↑fr, Value.int IntKind.i64 ↑tl, Value.bool false, Value.string { data := #[98] }, Value.int IntKind.i64 ↑st, Value.int IntKind.i64 ↑en, Value.float FloatKind.f64 fs, Value.float FloatKind.f64 fo, Value.int IntKind.i64 ql, Value.string TT, Value.int IntKind.i64 ↑NF, Value.float FloatKind.f64 dv] 71)).alloc (Obj.cells #[Value.int IntKind.i64 ↑k, Value.int IntKind.i64 ↑W, Value.float FloatKind.f64 sc] 24) := ⟨_, rfl⟩
  rw [← hwA]
  have hbA : Below w.heap.size w wA := by rw [hwA]; exact ((Below.refl _ _).alloc (Nat.le_refl _) _).alloc (by simp) _
  have hsA : wA.heap.size = w.heap.size + 2 := by rw [hwA]; simp
  have hA0 : wA.heap[w.heap.size]? = some (Obj.cells #[Value.string { data := #[114] }, Value.int IntKind.i64 ↑fr, Value.int IntKind.i64 ↑tl, Value.bool false, Value.string { data := #[98] }, Value.int IntKind.i64 ↑st, Value.int IntKind.i64 ↑en, Value.float FloatKind.f64 fs, Value.float FloatKind.f64 fo, Value.int IntKind.i64 ql, Value.string TT, Value.int IntKind.i64 ↑NF, Value.float FloatKind.f64 dv] 71 (0, 0)) := by rw [hwA, Below.heap_alloc _ _ _ (by simp)]; exact heap_alloc_new w _
  have hA1 : wA.heap[w.heap.size + 1]? = some (Obj.cells #[Value.int IntKind.i64 ↑k, Value.int IntKind.i64 ↑W, Value.float FloatKind.f64 sc] 24 (0, 0)) := by rw [hwA]; exact heap_alloc2_new w _ _
  clear hwA hgl hra hrb
  refine wp_region_X 26 (fun W1 => W1.cell? ⟨w.heap.size + 1, 0, none⟩ = some (.int .i64 k)) (by kernel_rfl) (cell_at hA1 rfl) (fun hH => ?_)
  refine wpZ 0 hH ?_
  refine wpZ 1 hH ?_
  refine wpZ 2 hH ?_
  refine wpZ 3 hH ?_
  refine wpZ 4 hH ?_
  refine wpZ 5 hH ?_
  refine wpZ 6 hH ?_
  refine wpZ 7 hH ?_
  refine wpZ 8 hH ?_
  refine wpZ 9 hH ?_
  refine wpZ 10 hH ?_
  refine wpZ 11 hH ?_
  refine wpZ 12 hH ?_
  refine wpZ 13 hH ?_
  refine wpZ 14 hH ?_
  refine wpZ 15 hH ?_
  refine wpZ 16 hH ?_
  refine wpZ 17 hH ?_
  refine wpZ 18 hH ?_
  refine wpZ 19 hH ?_
  refine wpZ 20 hH ?_
  refine wpZ 21 hH ?_
  refine wpZ 22 hH ?_
  refine wpZ 23 hH ?_
  refine wpZ 24 hH ?_
  refine wpZ 25 hH ?_
  refine wpAnyX_done (by kernel_rfl) ?_
  refine hK12 _ _ ?_
  clear hK12 hH
  have v10 : wA.drew.cell? ⟨w.heap.size, 10, none⟩ = some (.string TT) := cell_at (w := wA.drew) hA0 rfl
  go_wp2_with fail
  refine (HCL.out _).mono ?_
  rintro e w1 ⟨rfl, hb1⟩
  have HB1 : Hid (Below wA.heap.size wA w1) := ⟨hb1.os, hb1.tape, hb1.output, hb1.size, hb1.block⟩
  clear hb1 HCL v10
  go_wp2_with fail
  refine (HCC.out _).mono ?_
  rintro e w2 ⟨rfl, hb2⟩
  have HB2 : Hid (Below wA.heap.size wA w2) := HB1.out.trans (hb2.mono HB1.out.size)
  clear hb2 HCC HB1
  go_wp2_with fail
  refine (HCS.out _ (hbA.trans (HB2.out.mono (by omega)))).mono ?_
  rintro e w3 ⟨rfl, hb3⟩
  have HB3 : Hid (Below wA.heap.size wA w3) := HB2.out.trans (hb3.mono HB2.out.size)
  clear hb3 HCS HB2
  have h30 := (HB3.out.block w.heap.size (by omega)).trans hA0
  have h31 := (HB3.out.block (w.heap.size + 1) (by omega)).trans hA1
  have v7 := cell_at h30 (i := 7) rfl
  have v8 := cell_at h30 (i := 8) rfl
  have v9 := cell_at h30 (i := 9) rfl
  have v10 := cell_at h30 (i := 10) rfl
  have v11 := cell_at h30 (i := 11) rfl
  have v12 := cell_at h30 (i := 12) rfl
  have o0 := cell_at h31 (i := 0) rfl
  have o2 := cell_at h31 (i := 2) rfl
  go_wp2_with fail
  go_ret
  exact ⟨congrArg (fun b => Ending.returned (.bool b)) HZ1.out, hbA.trans (HB3.out.mono (by omega))⟩
set_option maxHeartbeats 8000000 in
theorem checked_sb (rd ra rb pc pl : ByteArray) (fr tl st en k W sc g o cp : Nat) (sq oq : Int) (w : World)
    (hra : w.cell? ⟨g, o, none⟩ = some (.string ra)) (hrb : w.cell? ⟨g, o + 1, none⟩ = some (.string rb))
    (hgd : good (rd.extract fr tl)) (hpc : pc = ⟨(turnL (rd.extract fr tl).data.toList).toArray⟩) (hpl : pl = rb.extract st en)
    (h1 : fr + k ≤ tl) (h2 : tl ≤ rd.size) (h2b : rd.size ≤ 300) (h3 : st + k ≤ en) (h4 : en ≤ rb.size) (h5 : rb.size ≤ 600) (hk1 : 1 ≤ k) (hk2 : k ≤ 12)
    (hw0 : pc.extract 0 k = pl.extract 0 k) (hw1 : pc.extract (pc.size - k) pc.size = pl.extract (pl.size - k) pl.size) (hps : pc.size = tl - fr)
    (gp : _root_.Go.Proofs.YtilcmkiihefkkaaGreatDoor.good pc) (gl : _root_.Go.Proofs.YtilcmkiihefkkaaGreatDoor.good pl)
    (hsc : FloatKind.f64.format.order (fq sq) sc ≠ some .lt) (hq1 : 4 * (k : Int) ≤ sq) (hq2 : sq ≤ 100000) (hq3 : 0 ≤ oq) (hq4 : oq ≤ sq)
    (htab : Lib.TabBelow Tryz.prog w.heap.size w "internal/strconv.uint64pow10" .u64 Lib.pow10Tab) :
    Calls Tryz.prog 22 #[.agg #[.string ⟨#[114]⟩, .int .i64 fr, .int .i64 tl, .bool true, .string ⟨#[98]⟩, .int .i64 st, .int .i64 en, .float .f64 (fq sq), .float .f64 (fq oq), .int .i64 (qual sq oq), .string ⟨(scT pc.data.toList pl.data.toList).toArray⟩, .int .i64 (scN pc.data.toList pl.data.toList : Nat), .float .f64 (shr (scN pc.data.toList pl.data.toList) (scLn pc.data.toList pl.data.toList))], .string rd, .slice (some ⟨g, o, none⟩) 2 cp, .agg #[.int .i64 k, .int .i64 W, .float .f64 sc]] w fun e w' => e = .returned (.bool true) ∧ Below w.heap.size w w' := by
  have hpls : pl.size = en - st := by rw [hpl, ByteArray.size_extract]; omega
  obtain ⟨hE, hT, hN⟩ := scT_fwd gp gl (by omega) (by omega)
  have hok := scLn_ok pc.data.toList pl.data.toList hE
  have hlF : scLn pc.data.toList pl.data.toList = (fwd pc pl).length := by
    have := pth_fwd gp gl (by omega) (by omega)
    unfold scLn
    rw [← List.length_reverse, this]
  have cS := fun (W1 : World) (hw : Below w.heap.size w W1) => pscript_any pc pl W1 (by omega) (by omega) (tabOnM htab hw)
  obtain ⟨la, hpst⟩ := rtxt_pst (fwd pc pl) (fwd_le pc pl) (by have := fwd_len pc pl; omega)
  rw [← hT] at hpst
  have hTl : (scT pc.data.toList pl.data.toList).length ≤ 30 * 900 := by
    have e1 := (scRs_ok pc.data.toList pl.data.toList hE)
    have h1 := rtxt_len (scRs pc.data.toList pl.data.toList) (fun p hp => (e1.2.1 p hp).1)
    have h2 := e1.2.2.1
    have h3 : (scRs pc.data.toList pl.data.toList).length ≤ 900 := Nat.le_trans (rl_len _ _) hok.1
    rw [e1.1]
    omega
  have cL := fun W1 => lletters_any ⟨(scT pc.data.toList pl.data.toList).toArray⟩ (fwd pc pl) la (by show (scT pc.data.toList pl.data.toList).toArray.size ≤ _; rw [List.size_toArray]; omega) (by simpa using hpst) W1
  have cC := fun W1 => lcost_any (fwd pc pl) pc pl (fwd_le pc pl) (by have := fwd_len pc pl; omega) (by omega) (by omega) (fwd_end pc pl (by omega) (by omega)) W1
  have hFs : (lets (fwd pc pl)).size = (fwd pc pl).length := lets_size _
  have hsh := shr_facts (scN pc.data.toList pl.data.toList) (scLn pc.data.toList pl.data.toList) hok.2.2.1 (by have := hok.2.1; have : pc.data.toList.length = pc.size := Array.length_toList; omega) (by omega)
  obtain ⟨A, B, Q, hA, hB, hQ, _, hi, hql1, hql2, ho1, ho2⟩ := qual_facts sq oq hq3 hq4 (by omega) hq2
  rw [fq4] at hB
  rw [fq240] at hQ
  rw [hE] at cS
  rw [hN] at hsh cS ⊢
  rw [hlF] at hsh ⊢
  unfold CoP at cC
  unfold LeP at cL
  have p50 : (1048576 : Nat) ≤ 2 ^ 50 := by decide
  have p53 : (1048576 : Nat) ≤ 2 ^ 53 := by decide
  have hNl : cntF (sR pc pl) (fwd pc pl) (0, 0) ≤ (fwd pc pl).length := by rw [← hN, ← hlF]; exact hok.2.2.1
  have hLl : (fwd pc pl).length ≤ 900 := by rw [← hlF]; exact hok.1
  have x1 : FloatKind.f64.format.order (fq sq) (fq (4 * (k : Int))) = some (compare sq (4 * (k : Int))) := order_fq _ _ (by omega) (by omega)
  have x2 : FloatKind.f64.format.order (fq oq) (fq 0) = some (compare oq 0) := order_fq _ _ (by omega) (by omega)
  have x3 : FloatKind.f64.format.order (fq oq) (fq sq) = some (compare oq sq) := order_fq _ _ (by omega) (by omega)
  have y1 : (FloatKind.f64.format.order (fq sq) (fq (4 * (k : Int))) == some Ordering.lt) = false := by
    rw [x1]; exact cmp_nlt _ _ (by omega)
  have y2 : (FloatKind.f64.format.order (fq oq) 0 == some Ordering.lt) = false := by
    rw [← fq0, x2]; exact cmp_nlt _ _ (by omega)
  have y3 : (FloatKind.f64.format.order (fq oq) (fq sq) == some Ordering.gt) = false := by
    rw [x3]; exact cmp_ngt _ _ hq4
  have y0 : (FloatKind.f64.format.order (fq sq) sc == some Ordering.lt) = false := by rw [beq_eq_false_iff_ne]; exact hsc
  have f1 : floatOfInt .f64 (k : Int) = fq (4 * (k : Int)) := ofInt_fq k (by omega)
  have f2 : floatOfInt .f64 ((cntF (sR pc pl) (fwd pc pl) (0, 0) : Nat) : Int) = fq (4 * ((cntF (sR pc pl) (fwd pc pl) (0, 0) : Nat) : Int)) := ofInt_fq _ (by omega)
  have f3 : floatOfInt .f64 (((fwd pc pl).length : Nat) : Int) = fq (4 * (((fwd pc pl).length : Nat) : Int)) := ofInt_fq _ (by omega)
  have f4 : floatOfInt .f64 (qual sq oq) = fq (4 * qual sq oq) := ofInt_fq _ (by omega)
  have f5 : floatBits .add .f64 (fq (4 * qual sq oq)) (fq 4) = some (fq (4 * qual sq oq + 4)) := add_fq _ _ (by omega) (by omega) (by omega)
  rw [fq4] at f5
  have q1 : ∀ W t, (binOp .quo t (.float .f64 (fq oq)) (.float .f64 (fq sq))).run Tryz.prog W = .ok (.float .f64 A) W := fun W t => run_float_arith W .quo t .f64 _ _ _ hA
  have q2 : ∀ W t, (binOp .sub t (.float .f64 4607182418800017408) (.float .f64 A)).run Tryz.prog W = .ok (.float .f64 B) W := fun W t => run_float_arith W .sub t .f64 _ _ _ hB
  have q3 : ∀ W t, (binOp .mul t (.float .f64 B) (.float .f64 4633641066610819072)).run Tryz.prog W = .ok (.float .f64 Q) W := fun W t => run_float_arith W .mul t .f64 _ _ _ hQ
  have q5 : ∀ W t, (binOp .add t (.float .f64 (fq (4 * qual sq oq))) (.float .f64 4607182418800017408)).run Tryz.prog W = .ok (.float .f64 (fq (4 * qual sq oq + 4))) W := fun W t => run_float_arith W .add t .f64 _ _ _ f5
  have q6 := fun W t => run_float_arith (P := Tryz.prog) W .quo t .f64 _ _ _ hsh.1
  have z1 : FloatKind.f64.format.order (fq (4 * qual sq oq)) Q = some .lt ∨ FloatKind.f64.format.order (fq (4 * qual sq oq)) Q = some .eq := ho1
  have HZ1 : Hid ((FloatKind.f64.format.order (fq (4 * qual sq oq)) Q == some Ordering.lt || FloatKind.f64.format.order (fq (4 * qual sq oq)) Q == some Ordering.eq) = true) := by
    show _ = true
    rcases z1 with h | h <;> rw [h] <;> rfl
  have z2 : (FloatKind.f64.format.order Q (fq (4 * qual sq oq + 4)) == some Ordering.lt) = true := by
    show (Ieee.double.order _ _ == _) = true; rw [ho2]; rfl
  have z3 : FloatKind.f64.format.order (shr (cntF (sR pc pl) (fwd pc pl) (0, 0)) (fwd pc pl).length) (shr (cntF (sR pc pl) (fwd pc pl) (0, 0)) (fwd pc pl).length) = some .eq := hsh.2
  generalize shr (cntF (sR pc pl) (fwd pc pl) (0, 0)) (fwd pc pl).length = dv at *
  generalize cntF (sR pc pl) (fwd pc pl) (0, 0) = NF at *
  generalize (⟨(scT pc.data.toList pl.data.toList).toArray⟩ : ByteArray) = TT at *
  generalize lets (fwd pc pl) = LF at *
  generalize (fwd pc pl).length = nF at *
  generalize cst (uR pc pl) (fwd pc pl).reverse pc.size pl.size = CF at *
  generalize fq (4 * qual sq oq + 4) = e1 at *
  generalize fq (4 * qual sq oq) = e2 at *
  generalize qual sq oq = ql at *
  generalize fq (4 * (NF : Int)) = e3 at *
  generalize fq (4 * (nF : Int)) = e4 at *
  generalize fq (4 * (k : Int)) = e5 at *
  generalize fq sq = fs at *
  generalize fq oq = fo at *
  have HCS := (show Hid _ from cS)
  have HCL := (show Hid _ from cL)
  have HCC := (show Hid _ from cC)
  clear cS cL cC hpst hTl hok hsh hA hB hQ hi hq1 hq2 hq3 hq4 ho1 ho2 x1 x2 x3 f5 hlF hE hT hN hql1 hql2 gl
  have hgl : g < w.heap.size := block_lt_of_cell hra
  have b0 : ¬ (fr : Int) < 0 := by omega
  have b00 : ¬ (st : Int) < 0 := by omega
  have b1 : IntKind.i64.wrap ((tl : Int) - fr) = (tl : Int) - fr := by rw [IntKind.wrap_i64]; omega
  have b2 : ¬ (tl : Int) - fr < k := by omega
  have b3 : IntKind.i64.wrap ((en : Int) - st) = (en : Int) - st := by rw [IntKind.wrap_i64]; omega
  have b4 : ¬ (en : Int) - st < k := by omega
  have b5 : ¬ (rd.size : Int) < tl := by omega
  have b6 : ¬ (rb.size : Int) < en := by omega
  have b7 : (fr : Int) ≤ tl := by omega
  have b8 : (tl : Int) ≤ rd.size := by omega
  have b9 : (st : Int) ≤ en := by omega
  have b10 : (en : Int) ≤ rb.size := by omega
  go_enter Tryz.func22, Tryz.ntmps22
  go_wp2_with fail
  obtain ⟨w0, hw0A⟩ : ∃ W1 : World, W1 = (w.alloc (Obj.cells #[Value.string { data := #[114] }, Value.int IntKind.i64 ↑fr, Value.int IntKind.i64 ↑tl, Value.bool true, Value.string { data := #[98] }, Value.int IntKind.i64 ↑st, Value.int IntKind.i64 ↑en, Value.float FloatKind.f64 fs, Value.float FloatKind.f64 fo, Value.int IntKind.i64 ql, Value.string TT, Value.int IntKind.i64 ↑NF, Value.float FloatKind.f64 dv] 71)).alloc (Obj.cells #[Value.int IntKind.i64 ↑k, Value.int IntKind.i64 ↑W, Value.float FloatKind.f64 sc] 24) := ⟨_, rfl⟩
  rw [← hw0A]
  have cT := turned_any (rd.extract fr tl) w0 (by rw [ByteArray.size_extract]; omega)
  refine cT.mono ?_
  rintro e wA ⟨⟨_, rfl⟩ | ⟨hbad, _⟩, hbT⟩
  rotate_left
  · exact absurd hgd hbad
  rw [← hpc]
  have HPC := (show Hid _ from hpc)
  clear hpc cT hgd
  have HBT : Hid (Below w0.heap.size w0 wA) := hbT
  clear hbT
  have hb0 : Below w.heap.size w w0 := by rw [hw0A]; exact ((Below.refl _ _).alloc (Nat.le_refl _) _).alloc (by simp) _
  have hs0 : w0.heap.size = w.heap.size + 2 := by rw [hw0A]; simp
  have h00 : w0.heap[w.heap.size]? = some (Obj.cells #[Value.string { data := #[114] }, Value.int IntKind.i64 ↑fr, Value.int IntKind.i64 ↑tl, Value.bool true, Value.string { data := #[98] }, Value.int IntKind.i64 ↑st, Value.int IntKind.i64 ↑en, Value.float FloatKind.f64 fs, Value.float FloatKind.f64 fo, Value.int IntKind.i64 ql, Value.string TT, Value.int IntKind.i64 ↑NF, Value.float FloatKind.f64 dv] 71 (0, 0)) := by rw [hw0A, Below.heap_alloc _ _ _ (by simp)]; exact heap_alloc_new w _
  have h01 : w0.heap[w.heap.size + 1]? = some (Obj.cells #[Value.int IntKind.i64 ↑k, Value.int IntKind.i64 ↑W, Value.float FloatKind.f64 sc] 24 (0, 0)) := by rw [hw0A]; exact heap_alloc2_new w _ _
  have hbA : Below w.heap.size w wA := hb0.trans (HBT.out.mono (by omega))
  have hA0 := (HBT.out.block w.heap.size (by omega)).trans h00
  have hA1 := (HBT.out.block (w.heap.size + 1) (by omega)).trans h01
  have hsA : w.heap.size + 2 ≤ wA.heap.size := by have := HBT.out.size; omega
  have v5 := cell_at hA0 (i := 5) rfl
  have v6 := cell_at hA0 (i := 6) rfl
  clear hw0A h00 h01 hb0
  go_wp2_with fail
  rw [← hpl]
  clear v5 v6 hgl hra hrb
  rename_i K12 hK12
  have c1 : (k : Int) ≤ pc.size := by omega
  have c2 : (k : Int) ≤ pl.size := by omega
  have c3 : IntKind.i64.wrap ((pc.size : Int) - k) = ((pc.size - k : Nat) : Int) := by rw [IntKind.wrap_i64]; omega
  have c4 : IntKind.i64.wrap ((pl.size : Int) - k) = ((pl.size - k : Nat) : Int) := by rw [IntKind.wrap_i64]; omega
  have c5 : ((pc.size - k : Nat) : Int) ≤ pc.size := by omega
  have c6 : ((pl.size - k : Nat) : Int) ≤ pl.size := by omega
  have c7 : k ≤ pc.size := by omega
  have c8 : k ≤ pl.size := by omega
  have HW0 := (show Hid _ from hw0)
  have HW1 := (show Hid _ from hw1)
  have HPS : Hid (pc.size ≤ 300 ∧ pl.size ≤ 600) := ⟨by omega, by omega⟩
  clear hpl hps hpls h1 h2 h3 h4 b1 b2 b3 b4 b5 b6 b7 b8 b9 b10
  refine wp_region_X 26 (fun W1 => W1.cell? ⟨w.heap.size + 1, 0, none⟩ = some (.int .i64 k)) (by kernel_rfl) (cell_at hA1 rfl) (fun hH => ?_)
  refine wpZ 0 hH ?_
  refine wpZ 1 hH ?_
  refine wpZ 2 hH ?_
  refine wpZ 3 hH ?_
  refine wpZ 4 hH ?_
  refine wpZ 5 hH ?_
  refine wpZ 6 hH ?_
  refine wpZ 7 hH ?_
  refine wpZ 8 hH ?_
  refine wpZ 9 hH ?_
  refine wpZ 10 hH ?_
  refine wpZ 11 hH ?_
  refine wpZ 12 hH ?_
  refine wpZ 13 hH ?_
  refine wpZ 14 hH ?_
  refine wpZ 15 hH ?_
  refine wpZ 16 hH ?_
  refine wpZ 17 hH ?_
  refine wpZ 18 hH ?_
  refine wpZ 19 hH ?_
  refine wpZ 20 hH ?_
  refine wpZ 21 hH ?_
  refine wpZ 22 hH ?_
  refine wpZ 23 hH ?_
  refine wpZ 24 hH ?_
  refine wpZ 25 hH ?_
  refine wpAnyX_done (by kernel_rfl) ?_
  refine hK12 _ _ ?_
  clear hK12 hH
  have v10 : wA.drew.cell? ⟨w.heap.size, 10, none⟩ = some (.string TT) := cell_at (w := wA.drew) hA0 rfl
  go_wp2_with fail
  refine (HCL.out _).mono ?_
  rintro e w1 ⟨rfl, hb1⟩
  have HB1 : Hid (Below wA.heap.size wA w1) := ⟨hb1.os, hb1.tape, hb1.output, hb1.size, hb1.block⟩
  clear hb1 HCL v10
  go_wp2_with fail
  refine (HCC.out _).mono ?_
  rintro e w2 ⟨rfl, hb2⟩
  have HB2 : Hid (Below wA.heap.size wA w2) := HB1.out.trans (hb2.mono HB1.out.size)
  clear hb2 HCC HB1
  go_wp2_with fail
  refine (HCS.out _ (hbA.trans (HB2.out.mono (by omega)))).mono ?_
  rintro e w3 ⟨rfl, hb3⟩
  have HB3 : Hid (Below wA.heap.size wA w3) := HB2.out.trans (hb3.mono HB2.out.size)
  clear hb3 HCS HB2
  have h30 := (HB3.out.block w.heap.size (by omega)).trans hA0
  have h31 := (HB3.out.block (w.heap.size + 1) (by omega)).trans hA1
  have v7 := cell_at h30 (i := 7) rfl
  have v8 := cell_at h30 (i := 8) rfl
  have v9 := cell_at h30 (i := 9) rfl
  have v10 := cell_at h30 (i := 10) rfl
  have v11 := cell_at h30 (i := 11) rfl
  have v12 := cell_at h30 (i := 12) rfl
  have o0 := cell_at h31 (i := 0) rfl
  have o2 := cell_at h31 (i := 2) rfl
  go_wp2_with fail
  go_ret
  exact ⟨congrArg (fun b => Ending.returned (.bool b)) HZ1.out, hbA.trans (HB3.out.mono (by omega))⟩
end Go.Proofs.YtilcmkiihefkkaaGreatDoor.Mn
end
section
set_option linter.unusedVariables false
set_option linter.unusedSimpArgs false
set_option maxRecDepth 100000
namespace Go.Proofs.YtilcmkiihefkkaaGreatDoor.Mn
open Go.RowKit
theorem ext_first (X : ByteArray) (r0 r1 k : Nat) (h : r0 ≤ r1) : ((X.extract r0 (r1 + k)).extract 0 k).data.toList = (X.data.toList.drop r0).take k := by
  rw [list_extract, list_extract, List.drop_zero, List.take_take]
  congr 1
  omega
theorem ext_last (X : ByteArray) (r0 r1 k : Nat) (h : r0 ≤ r1) (h2 : r1 + k ≤ X.size) : ((X.extract r0 (r1 + k)).extract ((X.extract r0 (r1 + k)).size - k) (X.extract r0 (r1 + k)).size).data.toList = (X.data.toList.drop r1).take k := by
  have hs : (X.extract r0 (r1 + k)).size = r1 + k - r0 := by rw [ByteArray.size_extract]; omega
  rw [list_extract, list_extract, hs, List.drop_take, List.drop_drop, List.take_take]
  have e1 : r0 + (r1 + k - r0 - k) = r1 := by omega
  have e2 : min (r1 + k - r0 - (r1 + k - r0 - k)) (r1 + k - r0 - (r1 + k - r0 - k)) = k := by omega
  rw [e1, e2]
theorem good_ext {s : ByteArray} (h : good s) (a b : Nat) : good (s.extract a b) := by
  have hl : ∀ c ∈ (s.extract a b).data.toList, 0 ≤ numb c := by
    intro c hc
    rw [list_extract] at hc
    exact good_list h c (List.mem_of_mem_drop (List.mem_of_mem_take hc))
  have := list_good hl
  rwa [show (⟨(s.extract a b).data.toList.toArray⟩ : ByteArray) = s.extract a b from ba_eq (by simp)] at this
theorem good_bs {s : ByteArray} (h : good s) (b : Bool) : good (bsOf b s) := by
  unfold bsOf
  split
  · exact list_good (turn_mem_good _)
  · exact h
theorem bs_turn (rd : ByteArray) (r0 r1 k : Nat) (h : r0 ≤ r1) (h2 : r1 + k ≤ rd.size) : (bsOf true rd).extract r0 (r1 + k) = ⟨(turnL (rd.extract (rd.size - (r1 + k)) (rd.size - r0)).data.toList).toArray⟩ := by
  apply ba_eq
  rw [list_extract, list_extract]
  have hl : rd.data.toList.length = rd.size := Array.length_toList
  have e1 : rd.size - r0 - (rd.size - (r1 + k)) = r1 + k - r0 := by omega
  rw [e1]
  show ((turnL rd.data.toList).toArray.toList.drop r0).take _ = (turnL _).toArray.toList
  simp only [List.toList_toArray]
  rw [turn_cut _ _ _ (by omega), hl]
  congr 2
  omega
theorem checked_told (ra rb rd : ByteArray) (k W sc g o cp : Nat) (f : FD) (i : Nat) (back : Bool) (r0 p0 r1 p1 : Nat) (sq oq : Int) (w : World) (hk1 : 1 ≤ k) (hk2 : k ≤ 12)
    (h : Told [⟨⟨#[97]⟩, ra⟩, ⟨⟨#[98]⟩, rb⟩] k sc ⟨#[114]⟩ rd f i back r0 p0 r1 p1 sq oq) (hra : w.cell? ⟨g, o, none⟩ = some (.string ra)) (hrb : w.cell? ⟨g, o + 1, none⟩ = some (.string rb))
    (gd : good rd) (ga : good ra) (gb : good rb) (sa : ra.size ≤ 300) (sb : rb.size ≤ 300)
    (htab : Lib.TabBelow Tryz.prog w.heap.size w "internal/strconv.uint64pow10" .u64 Lib.pow10Tab) :
    Calls Tryz.prog 22 #[.agg f.cells.toArray, .string rd, .slice (some ⟨g, o, none⟩) 2 cp, .agg #[.int .i64 k, .int .i64 W, .float .f64 sc]] w fun e w' => e = .returned (.bool true) ∧ Below w.heap.size w w' := by
  have hrs := h.rs
  have hl0 := h.le0
  have hl1 := h.le1
  have hb0 := h.b0
  have hb1 := h.b1
  have hlo := h.lo
  have hhi := h.hi
  have ho0 := h.o0
  have ho1 := h.o1
  have hsc := h.sc
  have ht0 := h.s0
  have ht1 := h.s1
  rw [h.fe]
  have hii : i = 0 ∨ i = 1 := by have := h.ii; simp at this; omega
  clear h
  have hX : (bsOf back rd).data.toList = if back = true then turnL rd.data.toList else rd.data.toList := by
    unfold bsOf; split <;> simp
  rw [← hX] at ht0 ht1
  have hXs : (bsOf back rd).size = rd.size := bsOf_size _ _
  have cT : ((r1 : Int) + (k : Int)) = ((r1 + k : Nat) : Int) := by omega
  have cP : ((p1 : Int) + (k : Int)) = ((p1 + k : Nat) : Int) := by omega
  have cF : ((rd.size : Int) - ((r1 : Int) + (k : Int))) = ((rd.size - (r1 + k) : Nat) : Int) := by omega
  have cL : ((rd.size : Int) - (r0 : Int)) = ((rd.size - r0 : Nat) : Int) := by omega
  rcases hii with rfl | rfl
  · have hb1' : p1 + k ≤ ra.size := hb1
    have w0 : ((bsOf back rd).extract r0 (r1 + k)).extract 0 k = (ra.extract p0 (p1 + k)).extract 0 k := ba_eq (by rw [ext_first _ _ _ _ hl0, ext_first _ _ _ _ hl1]; exact ht0)
    have w1 : ((bsOf back rd).extract r0 (r1 + k)).extract (((bsOf back rd).extract r0 (r1 + k)).size - k) ((bsOf back rd).extract r0 (r1 + k)).size = (ra.extract p0 (p1 + k)).extract ((ra.extract p0 (p1 + k)).size - k) (ra.extract p0 (p1 + k)).size := ba_eq (by rw [ext_last _ _ _ _ hl0 (by omega), ext_last _ _ _ _ hl1 hb1']; exact ht1)
    cases back
    · rw [fd_f k _ _ _ _ r0 p0 r1 p1 sq oq _ _ rfl rfl, cT, cP]
      exact checked_ff rd ra rb ((bsOf false rd).extract r0 (r1 + k)) (ra.extract p0 (p1 + k)) r0 (r1 + k) p0 (p1 + k) k W sc g o cp sq oq w hra hrb rfl rfl (by omega) hb0 hrs (by omega) hb1' (by omega) hk1 hk2 w0 w1 (by rw [ByteArray.size_extract]; omega) (good_ext (good_bs gd false) _ _) (good_ext ga _ _) hsc hlo hhi ho0 ho1 htab
    · rw [fd_t k _ _ _ _ r0 p0 r1 p1 sq oq _ _ rfl rfl, cF, cL, cP]
      exact checked_fb rd ra rb ((bsOf true rd).extract r0 (r1 + k)) (ra.extract p0 (p1 + k)) (rd.size - (r1 + k)) (rd.size - r0) p0 (p1 + k) k W sc g o cp sq oq w hra hrb (good_ext gd _ _) (bs_turn rd r0 r1 k hl0 hb0) rfl (by omega) (by omega) hrs (by omega) hb1' (by omega) hk1 hk2 w0 w1 (by rw [ByteArray.size_extract]; omega) (good_ext (good_bs gd true) _ _) (good_ext ga _ _) hsc hlo hhi ho0 ho1 htab
  · have hb1' : p1 + k ≤ rb.size := hb1
    have w0 : ((bsOf back rd).extract r0 (r1 + k)).extract 0 k = (rb.extract p0 (p1 + k)).extract 0 k := ba_eq (by rw [ext_first _ _ _ _ hl0, ext_first _ _ _ _ hl1]; exact ht0)
    have w1 : ((bsOf back rd).extract r0 (r1 + k)).extract (((bsOf back rd).extract r0 (r1 + k)).size - k) ((bsOf back rd).extract r0 (r1 + k)).size = (rb.extract p0 (p1 + k)).extract ((rb.extract p0 (p1 + k)).size - k) (rb.extract p0 (p1 + k)).size := ba_eq (by rw [ext_last _ _ _ _ hl0 (by omega), ext_last _ _ _ _ hl1 hb1']; exact ht1)
    cases back
    · rw [fd_f k _ _ _ _ r0 p0 r1 p1 sq oq _ _ rfl rfl, cT, cP]
      exact checked_sf rd ra rb ((bsOf false rd).extract r0 (r1 + k)) (rb.extract p0 (p1 + k)) r0 (r1 + k) p0 (p1 + k) k W sc g o cp sq oq w hra hrb rfl rfl (by omega) hb0 hrs (by omega) hb1' (by omega) hk1 hk2 w0 w1 (by rw [ByteArray.size_extract]; omega) (good_ext (good_bs gd false) _ _) (good_ext gb _ _) hsc hlo hhi ho0 ho1 htab
    · rw [fd_t k _ _ _ _ r0 p0 r1 p1 sq oq _ _ rfl rfl, cF, cL, cP]
      exact checked_sb rd ra rb ((bsOf true rd).extract r0 (r1 + k)) (rb.extract p0 (p1 + k)) (rd.size - (r1 + k)) (rd.size - r0) p0 (p1 + k) k W sc g o cp sq oq w hra hrb (good_ext gd _ _) (bs_turn rd r0 r1 k hl0 hb0) rfl (by omega) (by omega) hrs (by omega) hb1' (by omega) hk1 hk2 w0 w1 (by rw [ByteArray.size_extract]; omega) (good_ext (good_bs gd true) _ _) (good_ext gb _ _) hsc hlo hhi ho0 ho1 htab
end Go.Proofs.YtilcmkiihefkkaaGreatDoor.Mn
end
