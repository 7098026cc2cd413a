import Derived.Test.YtilcmkiihefkkaaAlC
import Derived.Test.YtilcmkiihefkkaaAlE
set_option linter.unusedVariables false
set_option linter.unusedSimpArgs false
namespace Go.Proofs.Ytilcmkiihefkkaa
open Go.RowKit Go.Shelf Go.Lib Go.Sort

theorem run_store_flt3 (P : Program) (w : World) (a : Addr) (m : Mode) (k : FloatKind) (b : Nat) : (store a (.float k b) m).run P w = stored P w a (.float k b) m := run_store P w a _ m rfl

attribute [local go_sem] run_store_flt3

theorem reverse_any (C : List (Int × Int)) (n : Nat) (hn : C.length = n) (h2 : n ≤ 1000) (base g o cap : Nat) (w : World) (hown : OwnR w base 62 2 (.slice (some ⟨g, o, none⟩) n cap) n (acells C)) :
    Calls Try.prog 73 #[.slice (some ⟨g, o, none⟩) n cap] w fun e w' => e = .returned (.tuple #[]) ∧ OwnR w' base 62 2 (.slice (some ⟨g, o, none⟩) n cap) n (acells C.reverse) ∧ (∀ j, j < w.heap.size → j ≠ g → w'.heap[j]? = w.heap[j]?) ∧ w.heap.size ≤ w'.heap.size ∧ w'.os = w.os ∧ w'.tape = w.tape ∧ w'.output = w.output := by
  have hH := hown.holdsA hn
  have hcon := AnyQ.slices_Reverse Try.reverseA 2 Try.isAgg62 Try.sizeOf62 encA (fun _ => rfl) (fun x v hv => by simp [encA] at hv; rcases hv with rfl | rfl <;> rfl) g o cap C.toArray w hH.1 (by simp; omega)
  change Calls Try.prog 73 _ _ _ at hcon
  have hsz : C.toArray.size = n := by simpa using hn
  rw [hsz] at hcon
  refine hcon.mono ?_
  rintro e w' ⟨rfl, m, rfl⟩
  have e1 : C.toArray.reverse = C.reverse.toArray := by simp
  have e2 : putRowK encA 2 (Sort.ahead w m) g o C.reverse.toArray = sortWorldK encA 2 w g o m C.reverse.toArray #[] := by
    unfold sortWorldK; rw [grow_empty]
  rw [e1, e2]
  exact ⟨rfl, hown.sortedA hn (by rw [List.length_reverse]; exact hn)⟩

/-- the predecessor that stands in the box -/
def predOf (w : World) (X : Nat) : Nat := match w.cell? ⟨X, 3, none⟩ with
  | some (.int _ n) => (n + 1).toNat
  | _ => 0

set_option maxHeartbeats 4000000 in
set_option maxRecDepth 100000 in
theorem chain_any (T : List Lk) (n : Nat) (hn : T.length = n) (h4 : n ≤ 1000) (base Tb g o cap mb : Nat) (kv : Value) (w : World) (hmb : mb < n)
    (hB : w.heap[Tb]? = some (.cells #[kv, .slice (some ⟨g, o, none⟩) n cap] 113 (0, 0))) (hown : OwnR w base 118 4 (.slice (some ⟨g, o, none⟩) n cap) n (lcells T)) (hp : ∀ j, j < n → -1 ≤ (T.getD j Lk0).p ∧ (T.getD j Lk0).p < j) (t : Lk) (ht : t = T.getD mb Lk0) :
    Calls Try.prog 50 #[.pointer (some ⟨Tb, 0, none⟩), .agg #[.int .i64 t.a.1, .int .i64 t.a.2, .float .f64 (fq t.q), .int .i64 t.p]] w fun e w' => ∃ v, e = .returned v ∧ OwnR w' w.heap.size 62 2 v (bk T n mb).reverse.length (acells (bk T n mb).reverse) ∧ Below w.heap.size w w' := by
  obtain ⟨i0, hi2, hz0, hz1, hz2⟩ := info_parts Try.info62
  have HN : Hid (T.length = n) := hn
  have hltB := lt_of_block hB
  have hg : g < w.heap.size := (hown.lt rfl).2
  have HB : Hid (w.heap[Tb]? = some (.cells #[kv, .slice (some ⟨g, o, none⟩) n cap] 113 (0, 0))) := hB
  have HC : Hid (∀ j, j < T.length → w.cell? ⟨g, o + j * 4, none⟩ = some (.int .i64 (T.getD j Lk0).a.1) ∧ w.cell? ⟨g, o + j * 4 + 1, none⟩ = some (.int .i64 (T.getD j Lk0).a.2) ∧ w.cell? ⟨g, o + j * 4 + 2, none⟩ = some (.float .f64 (fq (T.getD j Lk0).q)) ∧ w.cell? ⟨g, o + j * 4 + 3, none⟩ = some (.int .i64 (T.getD j Lk0).p)) := hown.lks
  have HP : Hid (∀ j, j < n → -1 ≤ (T.getD j Lk0).p ∧ (T.getD j Lk0).p < j) := hp
  have HF : Hid (bk T n mb = t.a :: bk T (t.p + 1).toNat t.p) := by
    show _ = _
    have hpm := hp mb hmb
    rw [bk_more T n (fun i hi => (hp i hi).2) (mb + 1) mb (by omega) (by omega) n (by omega)]
    show (if (mb : Int) < 0 then [] else _) = _
    rw [if_neg (by omega), Int.toNat_natCast, ← ht]
    rw [← ht] at hpm
    congr 1
    exact bk_more T n (fun i hi => (hp i hi).2) (t.p + 1).toNat t.p (by omega) (by omega) mb (by omega)
  obtain ⟨F, hF⟩ : ∃ F, F = bk T n mb := ⟨_, rfl⟩
  rw [← hF] at HF ⊢
  have htp := hp mb hmb
  rw [← ht] at htp
  clear hn hB hown hp ht hF
  obtain ⟨⟨tr, tp⟩, tq, tpp⟩ := t
  simp only at HF htp ⊢
  go_enter Try.func50, Try.ntmps50
  go_wp2_with fail
  obtain ⟨X, hX⟩ : ∃ X, X = w.heap.size := ⟨_, rfl⟩
  have HX : Hid (X = w.heap.size) := hX
  have HST : Hid (((w.alloc (.cells #[.int .i64 tr, .int .i64 tp, .float .f64 (fq tq), .int .i64 tpp] 118)).alloc (.cells #[.int .i64 tr, .int .i64 tp] 62)).heap[X]? = some (.cells #[.int .i64 tr, .int .i64 tp, .float .f64 (fq tq), .int .i64 tpp] 118 (0, 0)) ∧ OwnR ((w.alloc (.cells #[.int .i64 tr, .int .i64 tp, .float .f64 (fq tq), .int .i64 tpp] 118)).alloc (.cells #[.int .i64 tr, .int .i64 tp] 62)) X 62 2 (.slice (some ⟨X + 1, 0, none⟩) 1 1) 1 (acells [(tr, tp)]) ∧ Below X w ((w.alloc (.cells #[.int .i64 tr, .int .i64 tp, .float .f64 (fq tq), .int .i64 tpp] 118)).alloc (.cells #[.int .i64 tr, .int .i64 tp] 62))) := by
    refine ⟨?_, ?_, ?_⟩
    · rw [hX]
      exact (Below.heap_alloc _ _ _ (by simp)).trans (heap_alloc_new w _)
    · have h := World.ownsRow_lit (base := X) (e := 62) (size := 2) (w.alloc (.cells #[.int .i64 tr, .int .i64 tp, .float .f64 (fq tq), .int .i64 tpp] 118)) #[.int .i64 tr, .int .i64 tp] 1 (by simp; omega) (by unfold maxLen; omega) rfl
      have e : (w.alloc (.cells #[.int .i64 tr, .int .i64 tp, .float .f64 (fq tq), .int .i64 tpp] 118)).heap.size = X + 1 := by simp; omega
      rw [e] at h
      exact OwnR.of_ownsRow h (Nat.le_refl _)
    · rw [hX]
      exact ((Below.refl _ w).alloc (Nat.le_refl _) _).alloc (by simp) _
  rw [← hX]
  rw [← hX] at hg hltB
  clear hX
  go_loopw [5] (fun cv wx => ∃ (p : Nat) (q : Int) (a : Int × Int) (pp : Int) (C : List (Int × Int)), p < n ∧ -1 ≤ pp ∧ pp < p ∧ wx.heap[X]? = some (.cells #[.int .i64 a.1, .int .i64 a.2, .float .f64 (fq q), .int .i64 pp] 118 (0, 0)) ∧ OwnR wx X 62 2 cv C.length (acells C) ∧ 0 < C.length ∧ C.length + p ≤ n ∧ Hid (C ++ bk T (pp + 1).toNat pp = F) ∧ Below X w wx) (fun _ wx => predOf wx X)
  case atStart =>
    refine ⟨mb, tq, (tr, tp), tpp, [(tr, tp)], hmb, htp.1, htp.2, HST.out.1, HST.out.2.1, by simp, by simp; omega, ?_, HST.out.2.2⟩
    show _ = _
    rw [HF.out]; rfl
  case round =>
    clear HST HF
    obtain ⟨p, q, ⟨ar, ap⟩, pp, C, hpn, hpp1, hpp2, hb, hownC, hC0, hCn, HFC, hbel⟩ := hrel
    simp only at hb
    have hXl := lt_of_block hb
    obtain ⟨ao, cc, hv⟩ := hownC.shape
    subst hv
    have x0 : wr.cell? ⟨X, 0, none⟩ = some (.int .i64 ar) := cell_at hb rfl
    have x1 : wr.cell? ⟨X, 1, none⟩ = some (.int .i64 ap) := cell_at hb rfl
    have x2 : wr.cell? ⟨X, 2, none⟩ = some (.float .f64 (fq q)) := cell_at hb rfl
    have x3 : wr.cell? ⟨X, 3, none⟩ = some (.int .i64 pp) := cell_at hb rfl
    have xf : ∀ j, wr.frozen? ⟨X, j, none⟩ = false := fun j => frozen_of_row _ _ _ _ _ hb
    have t1 : wr.cell? ⟨Tb, 1, none⟩ = some (.slice (some ⟨g, o, none⟩) n cap) := cell_at ((hbel.block Tb hltB).trans HB.out) rfl
    have HPO : Hid (predOf wr X = (pp + 1).toNat) := by
      show _ = _
      unfold predOf; rw [x3]
    have HBEL : Hid (Below X w wr) := hbel
    have HOC : Hid (OwnR wr X 62 2 (.slice ao C.length cc) C.length (acells C)) := hownC
    have HBX : Hid (wr.heap[X]? = some (.cells #[.int .i64 ar, .int .i64 ap, .float .f64 (fq q), .int .i64 pp] 118 (0, 0))) := hb
    clear hb hownC
    by_cases hend : pp = -1
    · subst hend
      obtain ⟨g1, o1, hao, hg1⟩ : ∃ g1 o1, ao = some ⟨g1, o1, none⟩ ∧ X ≤ g1 := by
        rcases HOC.out.2 with ⟨_, h⟩ | ⟨g', o', cap', cur, he, h1, h2, _⟩
        · omega
        · simp only [Value.slice.injEq] at he
          exact ⟨g', o', he.1, h1⟩
      subst hao
      have HCF : Hid (C = F) := by
        have := HFC.out
        show C = F
        simpa [bk] using this
      go_wp2_with fail
      refine (reverse_any C C.length rfl (by omega) X g1 o1 cc wr HOC.out).mono ?_
      rintro e w' ⟨rfl, r1, r2, r3, r4, r5, r6⟩
      have HR1 : Hid (OwnR w' X 62 2 (.slice (some ⟨g1, o1, none⟩) C.length cc) C.length (acells C.reverse)) := r1
      have HBW : Hid (Below X w w') := ⟨r4.trans HBEL.out.os, r5.trans HBEL.out.tape, r6.trans HBEL.out.output, Nat.le_trans HBEL.out.size r3, fun j hj => (r2 j (by omega) (by omega)).trans (HBEL.out.block j hj)⟩
      clear r1 r2 r3 r4 r5 r6
      go_wp2_with fail
      go_ret
      refine ⟨_, rfl, ?_, by rw [← HX.out]; exact HBW.out⟩
      rw [← HX.out, ← HCF.out, List.length_reverse]
      exact HR1.out
    · obtain ⟨r, hr⟩ : ∃ r : Nat, pp = r := ⟨pp.toNat, by omega⟩
      subst hr
      have hrn : (r : Int) < n := by omega
      obtain ⟨d1, d2, d3, d4⟩ := HC.out r (by rw [HN.out]; omega)
      have hpr := HP.out r (by omega)
      rw [← hbel.cell hg] at d1 d2 d3 d4
      obtain ⟨l, hl⟩ : ∃ l, l = T.getD r Lk0 := ⟨_, rfl⟩
      rw [← hl] at d1 d2 d3 d4 hpr
      have HL : Hid (T.getD r Lk0 = l) := hl.symm
      obtain ⟨⟨lr, lp⟩, lq, lpp⟩ := l
      simp only at d1 d2 d3 d4 hpr
      clear hbel hl
      go_wp2_with fail
      go_region
      have u := ((((Upd.of_setCell (i := 0) (.int .i64 lr) HBX.out).setCell (i := 1) (.int .i64 lp)).setCell (i := 2) (.float .f64 (fq lq))).setCell (i := 3) (.int .i64 lpp)).drew
      have HB4 : Hid (Below X w ((((wr.setCell ⟨X, 0, none⟩ (.int .i64 lr)).setCell ⟨X, 1, none⟩ (.int .i64 lp)).setCell ⟨X, 2, none⟩ (.float .f64 (fq lq))).setCell ⟨X, 3, none⟩ (.int .i64 lpp)).drew) := ((((HBEL.out.setCell (p := ⟨X, 0, none⟩) (Nat.le_refl _) _).setCell (p := ⟨X, 1, none⟩) (Nat.le_refl _) _).setCell (p := ⟨X, 2, none⟩) (Nat.le_refl _) _).setCell (p := ⟨X, 3, none⟩) (Nat.le_refl _) _).drew
      have HO4 : Hid (OwnR ((((wr.setCell ⟨X, 0, none⟩ (.int .i64 lr)).setCell ⟨X, 1, none⟩ (.int .i64 lp)).setCell ⟨X, 2, none⟩ (.float .f64 (fq lq))).setCell ⟨X, 3, none⟩ (.int .i64 lpp)).drew X 62 2 (.slice ao C.length cc) C.length (acells C)) := HOC.out.other (fun g2 hg2 _ => u.other g2 (fun e => by subst e; exact HOC.out.tag (by decide) HBX.out hg2))
      have hX4 := u.here
      clear u x0 x1 x2 x3 xf t1 d1 d2 d3 d4
      generalize ((((wr.setCell ⟨X, 0, none⟩ (.int .i64 lr)).setCell ⟨X, 1, none⟩ (.int .i64 lp)).setCell ⟨X, 2, none⟩ (.float .f64 (fq lq))).setCell ⟨X, 3, none⟩ (.int .i64 lpp)).drew = w4 at hX4 HB4 HO4 ⊢
      have y0 : w4.cell? ⟨X, 0, none⟩ = some (.int .i64 lr) := cell_at hX4 rfl
      have y1 : w4.cell? ⟨X, 1, none⟩ = some (.int .i64 lp) := cell_at hX4 rfl
      have HX4 : Hid (w4.heap[X]? = some (.cells #[.int .i64 lr, .int .i64 lp, .float .f64 (fq lq), .int .i64 lpp] 118 (0, 0))) := hX4
      have hX4l := lt_of_block hX4
      clear hX4
      clear HOC
      go_wp2_with (at_builtin; go_must (refine wpList_own _ rfl (.tmp 20) (.tmp 23) 52 rfl 62 i0 _ 2 16 Try.underlying52 hi2 hz0 hz1 hz2 rfl (by decide) X (.slice ao C.length cc) C.length (acells C) rfl (by exact HO4.out.other (fun g _ hlt => Below.heap_alloc _ _ _ hlt)) ⟨w4.heap.size, 0, none⟩ 1 [.int .i64 lr, .int .i64 lp] rfl rfl (by exact abox_cells _ _ _ _ _ rfl) (an_oneCell _ _) (by unfold maxLen; omega) (by omega) (by simp; omega) ?_; intro g' o' cap' w5 hown5 hf5))
      go_roundw
      case rel =>
        have hX5 : w5.heap[X]? = some (.cells #[.int .i64 lr, .int .i64 lp, .float .f64 (fq lq), .int .i64 lpp] 118 (0, 0)) := by
          rw [hf5.other X (by simp; omega) (HO4.out.tag (by decide) HX4.out), Below.heap_alloc _ _ _ hX4l]; exact HX4.out
        refine ⟨r, lq, (lr, lp), lpp, C ++ [(lr, lp)], by omega, hpr.1, hpr.2, hX5, ?_, by simp, by simp only [List.length_append, List.length_singleton]; omega, ?_, ?_⟩
        · rw [List.length_append, acells_append]; exact hown5
        · show _ = _
          rw [← HFC.out, List.append_assoc]
          congr 1
          have e1 : ((r : Int) + 1).toNat = r + 1 := by omega
          rw [e1]
          show _ = (if (r : Int) < 0 then [] else _)
          rw [if_neg (by omega), Int.toNat_natCast, HL.out]
          show (lr, lp) :: bk T (lpp + 1).toNat lpp = (lr, lp) :: bk T r lpp
          congr 1
          exact (bk_more T n (fun i hi => (HP.out i hi).2) (lpp + 1).toNat lpp (by omega) (by omega) r (by omega)).symm
        · refine ⟨hf5.os.trans HB4.out.os, hf5.tape.trans HB4.out.tape, hf5.output.trans HB4.out.output, ?_, fun j hj => ?_⟩
          · have := hf5.size
            simp at this
            have := HB4.out.size
            omega
          · rw [hf5.other j (by simp; omega) (fun he => by have := (HO4.out.lt he).1; omega), Below.heap_alloc _ _ _ (by omega)]
            exact HB4.out.block j hj
      case measure =>
        have hX5 : w5.heap[X]? = some (.cells #[.int .i64 lr, .int .i64 lp, .float .f64 (fq lq), .int .i64 lpp] 118 (0, 0)) := by
          rw [hf5.other X (by simp; omega) (HO4.out.tag (by decide) HX4.out), Below.heap_alloc _ _ _ hX4l]; exact HX4.out
        have e5 : predOf w5 X = (lpp + 1).toNat := by
          unfold predOf; rw [cell_at (v := .int .i64 lpp) hX5 rfl]
        rw [e5, HPO.out]
        omega
end Go.Proofs.Ytilcmkiihefkkaa
