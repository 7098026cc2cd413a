import Derived.Test.YtilcmkiihefkkaaDoorSdF
set_option linter.unusedVariables false
set_option linter.unusedSimpArgs false
set_option maxRecDepth 100000
namespace Go.Proofs.YtilcmkiihefkkaaDoor
open Go.RowKit Go.Shelf Go.Lib

set_option maxHeartbeats 8000000 in
theorem row_any (base B k x m : Nat) (f h : Nat → C3) (F R : List Nat) (vr vf vw va : Value) (VS : List Value) (w : World) (hm : F.length = m) (hmb : m ≤ 600) (hk : k ≤ 300) (hbB : base ≤ B)
    (hh : h = rowS 1048576 (fun j => prC x (F.getD j 9)) f) (hcf : ∀ t, t ≤ m → okB (f t)) (hch : ∀ t, t ≤ m → okB (h t))
    (hB : w.heap[B]? = some (.cells #[vr, vf, vw] 50 (0, 0)))
    (h1 : OwnR w base 3 1 vr k (numV R)) (h2 : OwnR w base 3 1 vf m (numV F)) (h3 : OwnR w base 45 1 vw (k + 1) VS) (hV : VS[k]? = some va) (h4 : OwnR w base 47 3 va (m + 1) (celsL f (m + 1)))
    (hd : ∀ g, vr.ownBlock = some g → vf.ownBlock ≠ some g) :
    Calls Tryd.prog 15 #[.pointer (some ⟨B, 0, none⟩), .int .i64 k, .int .i64 x] w fun e w' => e = .returned (.tuple #[]) ∧ ∃ vr' vw' vn, w'.heap[B]? = some (.cells #[vr', vf, vw'] 50 (0, 0)) ∧
      OwnR w' base 3 1 vr' (k + 1) (numV (R ++ [x])) ∧ OwnR w' base 3 1 vf m (numV F) ∧ OwnR w' base 45 1 vw' (k + 2) (VS ++ [vn]) ∧ OwnR w' base 47 3 vn (m + 1) (celsL h (m + 1)) ∧
      (∀ g, vr'.ownBlock = some g → vf.ownBlock ≠ some g) ∧ (∀ v n xs, OwnR w base 47 3 v n xs → OwnR w' base 47 3 v n xs) ∧ Below base w w' := by
  obtain ⟨i3, hi3, hz0, hz1, hz2⟩ := info_parts Tryd.info3
  obtain ⟨ic, hic, hy0, hy1, hy2⟩ := info_parts Tryd.infoCell
  obtain ⟨is, his, hs0, hs1, hs2⟩ := info_parts Tryd.infoCells
  obtain ⟨ar, cr, rfl⟩ := h1.shape
  obtain ⟨af, cf, rfl⟩ := h2.shape
  obtain ⟨gw, ow, cw, rfl, hgw1, hgw2⟩ := h3.addr (by omega)
  obtain ⟨ga, oa, ca, rfl, hga1, hga2⟩ := h4.addr (by omega)
  have hltB := lt_of_block hB
  have HB : Hid (w.heap[B]? = some (.cells #[.slice ar k cr, .slice af m cf, .slice (some ⟨gw, ow, none⟩) (k + 1) cw] 50 (0, 0))) := hB
  have H1 : Hid (OwnR w base 3 1 (.slice ar k cr) k (numV R)) := h1
  have H2 : Hid (OwnR w base 3 1 (.slice af m cf) m (numV F)) := h2
  have H3 : Hid (OwnR w base 45 1 (.slice (some ⟨gw, ow, none⟩) (k + 1) cw) (k + 1) VS) := h3
  have H4 : Hid (OwnR w base 47 3 (.slice (some ⟨ga, oa, none⟩) (m + 1) ca) (m + 1) (celsL f (m + 1))) := h4
  have HV : Hid (VS[k]? = some (.slice (some ⟨ga, oa, none⟩) (m + 1) ca)) := hV
  have HD : Hid (∀ g, (Value.slice ar k cr).ownBlock = some g → (Value.slice af m cf).ownBlock ≠ some g) := hd
  have HM : Hid (F.length = m) := hm
  have HH : Hid (h = rowS 1048576 (fun j => prC x (F.getD j 9)) f) := hh
  have HCF : Hid (∀ t, t ≤ m → okB (f t)) := hcf
  have HCH : Hid (∀ t, t ≤ m → okB (h t)) := hch
  have b1 : w.cell? ⟨B, 0, none⟩ = some (.slice ar k cr) := cell_at hB rfl
  have bf : w.frozen? ⟨B, 0, none⟩ = false := frozen_of_row _ _ _ _ _ hB
  have hbw : base ≤ w.heap.size := by omega
  clear hB h1 h2 h3 h4 hV hd hm hh hcf hch
  go_enter Tryd.func15, Tryd.ntmps15
  go_upto_region 1 with (at_builtin; go_must (refine wpList_own _ rfl (.tmp 14) (.tmp 16) 26 rfl 3 i3 _ 1 8 Tryd.underlying26 hi3 hz0 hz1 hz2 rfl (by decide) base (.slice ar k cr) k (numV R) rfl (by exact H1.out.alloc _) ⟨w.heap.size, 0, none⟩ 1 [.int .i64 x] rfl rfl (by exact box_at w [.int .i64 x] 3 _ rfl) (int_oneCell _ _) (by unfold maxLen; omega) (by omega) (by simp; omega) ?_; intro g' o' cap' w2 hown' hfr; have hB2 : w2.heap[B]? = some (.cells #[.slice ar k cr, .slice af m cf, .slice (some ⟨gw, ow, none⟩) (k + 1) cw] 50 (0, 0)) := (hfr.other B (by simp; omega) (H1.out.tag (by decide) HB.out)).trans ((Below.heap_alloc _ _ _ hltB).trans HB.out); have HB2 : Hid (w2.heap[B]? = some (.cells #[.slice ar k cr, .slice af m cf, .slice (some ⟨gw, ow, none⟩) (k + 1) cw] 50 (0, 0))) := hB2; have q1 := cell_at hB2 (i := 0) rfl; have qf : w2.frozen? ⟨B, 0, none⟩ = false := frozen_of_row w2 _ _ _ _ hB2; clear hB2))
  obtain ⟨w3, hw3⟩ : ∃ w3 : World, w3 = w2.setCell ⟨B, 0, none⟩ (.slice (some ⟨g', o', none⟩) (k + 1) cap') := ⟨_, rfl⟩
  have HU : Hid (Upd w2 w3 B (.cells #[.slice (some ⟨g', o', none⟩) (k + 1) cap', .slice af m cf, .slice (some ⟨gw, ow, none⟩) (k + 1) cw] 50 (0, 0))) := by rw [hw3]; exact Upd.of_setCell (i := 0) _ HB2.out
  have hE : numV R ++ [.int .i64 x] = numV (R ++ [x]) := by simp [numV]
  rw [hE] at hown'
  have ha1 := H1.out.alloc (.cells #[.int .i64 x] 3)
  have HR3 : Hid (OwnR w3 base 3 1 (.slice (some ⟨g', o', none⟩) (k + 1) cap') (k + 1) (numV (R ++ [x]))) := by rw [hw3]; exact hown'.setOther _ (hown'.tag (by decide) HB2.out)
  have HOLD : Hid (∀ v n xs, OwnR w base 47 3 v n xs → OwnR w3 base 47 3 v n xs) := by
    intro v n xs hv
    have h := (hv.alloc (.cells #[.int .i64 x] 3)).app ha1 (by decide) hfr
    rw [hw3]; exact h.setOther _ (h.tag (by decide) HB2.out)
  have h22 := (H3.out.alloc (.cells #[.int .i64 x] 3)).app ha1 (by decide) hfr
  have H33 : Hid (OwnR w3 base 45 1 (.slice (some ⟨gw, ow, none⟩) (k + 1) cw) (k + 1) VS) := by rw [hw3]; exact h22.setOther _ (h22.tag (by decide) HB2.out)
  have H43 : Hid (OwnR w3 base 47 3 (.slice (some ⟨ga, oa, none⟩) (m + 1) ca) (m + 1) (celsL f (m + 1))) := HOLD.out _ _ _ H4.out
  have HD3 : Hid (∀ g, (Value.slice (some ⟨g', o', none⟩) (k + 1) cap').ownBlock = some g → (Value.slice af m cf).ownBlock ≠ some g) := by
    intro g hg he
    have hg2 : g' = g := by simpa [Value.ownBlock] using hg
    subst hg2
    have hl := (H2.out.lt he).2
    rcases hfr.new with h | h
    · exact HD.out g' h he
    · have : w.heap.size + 1 ≤ g' := by simpa using h
      omega
  have h2a : OwnR w2 base 3 1 (.slice af m cf) m (numV F) := (H2.out.alloc (.cells #[.int .i64 x] 3)).other (fun g hg hlt => hfr.other g hlt (fun he => HD.out g he hg))
  have H23 : Hid (OwnR w3 base 3 1 (.slice af m cf) m (numV F)) := by rw [hw3]; exact h2a.setOther _ (h2a.tag (by decide) HB2.out)
  have HBE : Hid (Below base w w3) := by
    have a := hfr.below (base := base) (fun g hg => (H1.out.lt hg).1) (by simp; omega)
    exact ((((Below.refl base w).alloc hbw _).trans a).trans (HU.out.below hbB))
  have hlt3 : base ≤ w3.heap.size := by have := HBE.out.size; omega
  have c1 : w3.cell? ⟨B, 1, none⟩ = some (.slice af m cf) := cell_at HU.out.here rfl
  have c2 : w3.cell? ⟨B, 2, none⟩ = some (.slice (some ⟨gw, ow, none⟩) (k + 1) cw) := cell_at HU.out.here rfl
  have cwk := H33.out.cell HV.out
  have hgw3 : gw < w3.heap.size := (H33.out.lt rfl).2
  have hB3 : B < w3.heap.size := lt_of_block HU.out.here
  have hga3 : ga < w3.heap.size := (H43.out.lt rfl).2
  obtain ⟨f0, hf0⟩ : ∃ c, c = f 0 := ⟨_, rfl⟩
  have hok0 := HCF.out 0 (by omega)
  obtain ⟨d0, d1, d2⟩ := H43.out.cel 0 (by omega)
  rw [← hf0] at d0 d1 d2 hok0
  simp only [Nat.zero_mul, Nat.add_zero] at d0 d1 d2
  have cA := fun W => ahead_any f0 1 (by omega) W hok0.big
  have hav := hok0.av 1
  obtain ⟨a1, ha1'⟩ : ∃ a, a = av f0 1 := ⟨_, rfl⟩
  obtain ⟨n1, hn1⟩ : ∃ a, a = nx f0 1 := ⟨_, rfl⟩
  rw [← ha1', ← hn1] at cA
  rw [← ha1'] at hav
  have HA1 : Hid (a1 = av (f 0) 1) := by rw [ha1', hf0]; exact rfl
  obtain ⟨fm, fi, fd⟩ := f0
  simp only at d0 d1 d2 cA
  rw [← hw3]
  have fld : ∀ W, (Instr.field 53 (.agg #[.int .i64 (n1 : Nat), .int .i64 a1]) 1).run Tryd.prog W = .ok (.int .i64 a1) W := fun _ => by kernel_rfl
  obtain ⟨Z, hZ, hmk⟩ : ∃ Z : Array Value, Z.size = (m + 1) * 3 ∧ ∀ W : World, (Instr.makeSlice 45 (.int .i64 ((m : Int) + 1)) (.int .i64 ((m : Int) + 1))).run Tryd.prog W = .ok (.slice (some ⟨W.heap.size, 0, none⟩) (m + 1) (m + 1)) (W.alloc (.cells Z 47)) := by
    refine ⟨madeCells (Value.agg #[.int .i64 0, .int .i64 0, .int .i64 0]).cells ((m + 1) * 3), by rw [size_madeCells], fun W => ?_⟩
    have e : (m : Int) + 1 = ((m + 1 : Nat) : Int) := by omega
    rw [e]
    have := run_make (P := Tryd.prog) W 45 47 ic _ Tryd.underlying45 hic hy0 .i64 .i64 ((m + 1 : Nat) : Int) ((m + 1 : Nat) : Int) (by omega) (by omega) (by rw [hy2]; omega) (by omega)
    rw [hy1] at this
    simpa using this
  have al : ∀ (ob : Obj) (b i : Nat), b < w3.heap.size → (w3.alloc ob).cell? ⟨b, i, none⟩ = w3.cell? ⟨b, i, none⟩ := fun ob b i hb => World.cell?_of_block (Below.heap_alloc w3 ob b hb)
  have al0 : ∀ ob, (w3.alloc ob).cell? ⟨ga, oa, none⟩ = some (.int .i64 fm) := fun ob => (al ob ga oa hga3).trans d0
  have al1 : ∀ ob, (w3.alloc ob).cell? ⟨ga, oa + 1, none⟩ = some (.int .i64 fi) := fun ob => (al ob ga (oa + 1) hga3).trans d1
  have al2 : ∀ ob, (w3.alloc ob).cell? ⟨ga, oa + 2, none⟩ = some (.int .i64 fd) := fun ob => (al ob ga (oa + 2) hga3).trans d2
  have HRN : Hid (∀ w5, Below (w3.alloc (.cells Z 47)).heap.size (w3.alloc (.cells Z 47)) w5 → RowP w5 w3.heap.size (m + 1) h 0 ∧ Below w3.heap.size w3 w5) := by
    intro w5 hb5
    refine ⟨⟨Z, (hb5.block _ (by simp)).trans (heap_alloc_new w3 _), hZ, fun t ht => absurd ht (by omega)⟩, ?_⟩
    exact ((Below.refl _ w3).alloc (Nat.le_refl _) _).trans (hb5.mono (by simp))
  clear hw3 h22 h2a hfr hown' ha1 q1 qf b1 bf hE ha1' hn1 hf0 al hok0 d0 d1 d2
  have hkI : (k : Int) < k + 1 := by omega
  have hmI : (0 : Int) < (m : Int) + 1 := by omega
  have hwr : IntKind.i64.wrap (a1 + 2) = a1 + 2 := by rw [IntKind.wrap_i64]; omega
  go_upto_region 4 with (go_at_call 22; refine (cA _).mono ?_; rintro e w5 ⟨rfl, hb5⟩; obtain ⟨hrow5, hbe5⟩ := HRN.out w5 hb5; have HROW : Hid (RowP w5 w3.heap.size (m + 1) h 0) := hrow5; have HBE5 : Hid (Below w3.heap.size w3 w5) := hbe5; obtain ⟨⟨y0, r0⟩, z0⟩ := hrow5.any 0 (by omega); obtain ⟨⟨y1, r1⟩, z1⟩ := hrow5.any 1 (by omega); obtain ⟨⟨y2, r2⟩, z2⟩ := hrow5.any 2 (by omega); clear hrow5 hbe5 hb5)
  obtain ⟨gr, hgr⟩ : ∃ gr, gr = w3.heap.size := ⟨_, rfl⟩
  rw [← hgr] at HROW HBE5 hgw3 hB3 hga3 ⊢
  obtain ⟨w6, hw6⟩ : ∃ w6 : World, w6 = (((w5.setCell ⟨gr, 0, none⟩ (.int .i64 1048576)).setCell ⟨gr, 1, none⟩ (.int .i64 (a1 + 2))).setCell ⟨gr, 2, none⟩ (.int .i64 1048576)) := ⟨_, rfl⟩
  have HR6 : Hid (RowP w6 gr (m + 1) h 1) := by
    have e : h 0 = ⟨1048576, a1 + 2, 1048576⟩ := by rw [HH.out, HA1.out]; rfl
    have r := HROW.out.set (by omega) 1048576 (a1 + 2) 1048576 e
    simp only [Nat.zero_mul, Nat.zero_add] at r
    rw [hw6]; exact r
  have HB6 : Hid (Below gr w3 w6) := by
    rw [hw6]
    exact ((HBE5.out.setCell (p := ⟨gr, 0, none⟩) (Nat.le_refl _) _).setCell (p := ⟨gr, 1, none⟩) (Nat.le_refl _) _).setCell (p := ⟨gr, 2, none⟩) (Nat.le_refl _) _
  have k1 : w6.cell? ⟨B, 1, none⟩ = some (.slice af m cf) := (HB6.out.cell (p := ⟨B, 1, none⟩) hB3).trans c1
  have HGR : Hid (gr = w3.heap.size) := hgr
  have HUH : Hid (w3.heap[B]? = some (.cells #[.slice (some ⟨g', o', none⟩) (k + 1) cap', .slice af m cf, .slice (some ⟨gw, ow, none⟩) (k + 1) cw] 50 (0, 0))) := HU.out.here
  have hbg : base ≤ gr := by omega
  rw [← hw6]
  clear hw6 hgr HROW HBE5 y0 r0 z0 y1 r1 z1 y2 r2 z2 hmk HRN al0 al1 al2 cA fld cwk hwr HA1 hav HU
  go_wp2_with fail
  go_loopw [44] (fun iv wx => ∃ j : Nat, j ≤ m ∧ iv = .int .i64 j ∧ RowP wx gr (m + 1) h (j + 1) ∧ Below gr w3 wx) (fun iv _ => m - (intOf iv).toNat)
  case atStart => exact ⟨0, Nat.zero_le _, rfl, HR6.out, HB6.out⟩
  case round =>
    clear HR6 HB6 k1
    obtain ⟨j, hj, rfl, hrow, hbel⟩ := hrel
    by_cases hlt : j < m
    · obtain ⟨gf, of, cf', hvf, hgf1, hgf2⟩ := H23.out.addr (by omega)
      rw [← HGR.out] at hgf2
      have hFj : (numV F)[j]? = some (.int .i64 (F.getD j 9 : Nat)) := by
        have : j < F.length := by rw [HM.out]; exact hlt
        simp [numV, this]
      have hvf2 : af = some ⟨gf, of, none⟩ ∧ cf = cf' := by simpa using hvf
      obtain ⟨rfl, rfl⟩ := hvf2
      have cj := H23.out.cell hFj
      obtain ⟨y, hy⟩ : ∃ y, y = F.getD j 9 := ⟨_, rfl⟩
      rw [← hy] at cj
      have HY : Hid (y = F.getD j 9) := hy
      obtain ⟨p0, p1, p2⟩ := H43.out.cel j (by omega)
      obtain ⟨q0, q1, q2⟩ := H43.out.cel (j + 1) (by omega)
      obtain ⟨s0, s1, s2⟩ := hrow.cel j (by omega)
      have okp := HCF.out j (by omega)
      have okq := HCF.out (j + 1) (by omega)
      have oks := HCH.out j (by omega)
      obtain ⟨fp, hfp⟩ : ∃ c, c = f j := ⟨_, rfl⟩
      obtain ⟨fq, hfq⟩ : ∃ c, c = f (j + 1) := ⟨_, rfl⟩
      obtain ⟨fs, hfs⟩ : ∃ c, c = h j := ⟨_, rfl⟩
      rw [← hfp] at p0 p1 p2 okp
      rw [← hfq] at q0 q1 q2 okq
      rw [← hfs] at s0 s1 s2 oks
      have HFP : Hid (fp = f j) := hfp
      have HFQ : Hid (fq = f (j + 1)) := hfq
      have HFS : Hid (fs = h j) := hfs
      rw [← hbel.cell (p := ⟨ga, oa + j * 3, none⟩) hga3] at p0
      rw [← hbel.cell (p := ⟨ga, oa + j * 3 + 1, none⟩) hga3] at p1
      rw [← hbel.cell (p := ⟨ga, oa + j * 3 + 2, none⟩) hga3] at p2
      rw [← hbel.cell (p := ⟨ga, oa + (j + 1) * 3, none⟩) hga3] at q0
      rw [← hbel.cell (p := ⟨ga, oa + (j + 1) * 3 + 1, none⟩) hga3] at q1
      rw [← hbel.cell (p := ⟨ga, oa + (j + 1) * 3 + 2, none⟩) hga3] at q2
      rw [← hbel.cell (p := ⟨gf, of + j, none⟩) hgf2] at cj
      obtain ⟨⟨t0, u0⟩, z0⟩ := hrow.any ((j + 1) * 3) (by omega)
      obtain ⟨⟨t1, u1⟩, z1⟩ := hrow.any ((j + 1) * 3 + 1) (by omega)
      obtain ⟨⟨t2, u2⟩, z2⟩ := hrow.any ((j + 1) * 3 + 2) (by omega)
      have HROW : Hid (RowP wr gr (m + 1) h (j + 1)) := hrow
      have HBEL : Hid (Below gr w3 wr) := hbel
      have hsz := hbel.size
      have hgrl : gr < wr.heap.size := by
        obtain ⟨cur, hc, _⟩ := hrow
        exact lt_of_block hc
      have hjI : (j : Int) < m := by omega
      have hjI2 : (j : Int) < (m : Int) + 1 := by omega
      have hjI3 : (j : Int) + 1 < (m : Int) + 1 := by omega
      have hjn : ((j : Int) + 1).toNat = j + 1 := by omega
      have hj0 : (0 : Int) ≤ (j : Int) + 1 := by omega
      have hjw : IntKind.i64.wrap ((j : Int) + 1) = (j : Int) + 1 := by rw [IntKind.wrap_i64]; omega
      have HRO : Hid (∀ W, Below wr.heap.size wr W → RowP W gr (m + 1) h (j + 1)) := fun W hb => hrow.other (hb.block gr hgrl)
      have cP := fun W => ahead_any fp 0 (by omega) W okp.big
      have cQ := fun W => ahead_any fq 1 (by omega) W okq.big
      have cS := fun W => ahead_any fs 2 (by omega) W oks.big
      have bP := okp.av 0
      have bQ := okq.av 1
      have bS := oks.av 2
      have cC := fun W => pairC_any x y W
      have bC : 0 ≤ prC x y ∧ prC x y ≤ 4 := by unfold prC; split <;> omega
      obtain ⟨aP, haP⟩ : ∃ a, a = av fp 0 := ⟨_, rfl⟩
      obtain ⟨aQ, haQ⟩ : ∃ a, a = av fq 1 := ⟨_, rfl⟩
      obtain ⟨aS, haS⟩ : ∃ a, a = av fs 2 := ⟨_, rfl⟩
      obtain ⟨nP, hnP⟩ : ∃ a, a = nx fp 0 := ⟨_, rfl⟩
      obtain ⟨nQ, hnQ⟩ : ∃ a, a = nx fq 1 := ⟨_, rfl⟩
      obtain ⟨nS, hnS⟩ : ∃ a, a = nx fs 2 := ⟨_, rfl⟩
      obtain ⟨pc, hpc⟩ : ∃ a, a = prC x y := ⟨_, rfl⟩
      rw [← haP, ← hnP] at cP
      rw [← haQ, ← hnQ] at cQ
      rw [← haS, ← hnS] at cS
      rw [← hpc] at cC bC
      rw [← haP] at bP
      rw [← haQ] at bQ
      rw [← haS] at bS
      have HHJ : Hid (h (j + 1) = ⟨aP + pc, aQ + 2, aS + 2⟩) := by
        show h (j + 1) = ⟨aP + pc, aQ + 2, aS + 2⟩
        rw [haP, haQ, haS, hpc, HFP.out, HFQ.out, HFS.out, HH.out, HY.out]
        rfl
      have fP : ∀ W, (Instr.field 53 (.agg #[.int .i64 (nP : Nat), .int .i64 aP]) 1).run Tryd.prog W = .ok (.int .i64 aP) W := fun _ => by kernel_rfl
      have fQ : ∀ W, (Instr.field 53 (.agg #[.int .i64 (nQ : Nat), .int .i64 aQ]) 1).run Tryd.prog W = .ok (.int .i64 aQ) W := fun _ => by kernel_rfl
      have fS : ∀ W, (Instr.field 53 (.agg #[.int .i64 (nS : Nat), .int .i64 aS]) 1).run Tryd.prog W = .ok (.int .i64 aS) W := fun _ => by kernel_rfl
      have w1 : IntKind.i64.wrap (aP + pc) = aP + pc := by rw [IntKind.wrap_i64]; omega
      have w2 : IntKind.i64.wrap (aQ + 2) = aQ + 2 := by rw [IntKind.wrap_i64]; omega
      have w4 : IntKind.i64.wrap (aS + 2) = aS + 2 := by rw [IntKind.wrap_i64]; omega
      clear hy hfp hfq hfs hrow hbel hFj hvf haP haQ haS hnP hnQ hnS hpc okp okq oks
      obtain ⟨pm, pi, pd⟩ := fp
      obtain ⟨qm, qi, qd⟩ := fq
      obtain ⟨sm, si, sd⟩ := fs
      simp only at p0 p1 p2 q0 q1 q2 s0 s1 s2 cP cQ cS
      go_wp2_with fail
      refine wp_region_X 30 (fun W => W.cell? ⟨ga, oa + j * 3, none⟩ = some (.int .i64 pm) ∧ W.cell? ⟨ga, oa + j * 3 + 1, none⟩ = some (.int .i64 pi) ∧ W.cell? ⟨ga, oa + j * 3 + 2, none⟩ = some (.int .i64 pd) ∧ W.cell? ⟨ga, oa + (j + 1) * 3, none⟩ = some (.int .i64 qm) ∧ W.cell? ⟨ga, oa + (j + 1) * 3 + 1, none⟩ = some (.int .i64 qi) ∧ W.cell? ⟨ga, oa + (j + 1) * 3 + 2, none⟩ = some (.int .i64 qd) ∧ W.cell? ⟨gr, j * 3, none⟩ = some (.int .i64 sm) ∧ W.cell? ⟨gr, j * 3 + 1, none⟩ = some (.int .i64 si) ∧ W.cell? ⟨gr, j * 3 + 2, none⟩ = some (.int .i64 sd)) (by kernel_rfl) ⟨p0, p1, p2, q0, q1, q2, s0, s1, s2⟩ (fun hH => ?_)
      refine wpAnyX_take (i := 0) (v := ?_) rfl (by kernel_rfl) (by kernel_rfl) (by kernel_rfl) (by kernel_rfl) (fun _ _ _ h => h) (Or.inl ⟨by rfl, ?_⟩) hH ?_
      rotate_left
      · intro W hS; (try dsimp only at hS); go_simp; all_goals (with_reducible rfl)
      try simp only [Act.put, List.setIfInBounds_toArray, List.set_cons_zero, List.set_cons_succ]
      refine wpAnyX_take (i := 1) (v := ?_) rfl (by kernel_rfl) (by kernel_rfl) (by kernel_rfl) (by kernel_rfl) (fun _ _ _ h => h) (Or.inl ⟨by rfl, ?_⟩) hH ?_
      rotate_left
      · intro W hS; (try dsimp only at hS); go_simp; all_goals (with_reducible rfl)
      try simp only [Act.put, List.setIfInBounds_toArray, List.set_cons_zero, List.set_cons_succ]
      refine wpAnyX_take (i := 2) (v := ?_) rfl (by kernel_rfl) (by kernel_rfl) (by kernel_rfl) (by kernel_rfl) (fun _ _ _ h => h) (Or.inl ⟨by rfl, ?_⟩) hH ?_
      rotate_left
      · intro W hS; (try dsimp only at hS); go_simp; all_goals (with_reducible rfl)
      try simp only [Act.put, List.setIfInBounds_toArray, List.set_cons_zero, List.set_cons_succ]
      refine wpAnyX_take (i := 3) (v := ?_) rfl (by kernel_rfl) (by kernel_rfl) (by kernel_rfl) (by kernel_rfl) (fun _ _ _ h => h) (Or.inl ⟨by rfl, ?_⟩) hH ?_
      rotate_left
      · intro W hS; (try dsimp only at hS); go_simp; all_goals (with_reducible rfl)
      try simp only [Act.put, List.setIfInBounds_toArray, List.set_cons_zero, List.set_cons_succ]
      refine wpAnyX_take (i := 4) (v := ?_) rfl (by kernel_rfl) (by kernel_rfl) (by kernel_rfl) (by kernel_rfl) (fun _ _ _ h => h) (Or.inl ⟨by rfl, ?_⟩) hH ?_
      rotate_left
      · intro W hS; (try dsimp only at hS); go_simp; all_goals (with_reducible rfl)
      try simp only [Act.put, List.setIfInBounds_toArray, List.set_cons_zero, List.set_cons_succ]
      refine wpAnyX_take (i := 5) (v := ?_) rfl (by kernel_rfl) (by kernel_rfl) (by kernel_rfl) (by kernel_rfl) (fun _ _ _ h => h) (Or.inl ⟨by rfl, ?_⟩) hH ?_
      rotate_left
      · intro W hS; (try dsimp only at hS); go_simp; all_goals (with_reducible rfl)
      try simp only [Act.put, List.setIfInBounds_toArray, List.set_cons_zero, List.set_cons_succ]
      refine wpAnyX_take (i := 6) (v := ?_) rfl (by kernel_rfl) (by kernel_rfl) (by kernel_rfl) (by kernel_rfl) (fun _ _ _ h => h) (Or.inl ⟨by rfl, ?_⟩) hH ?_
      rotate_left
      · intro W hS; (try dsimp only at hS); go_simp; all_goals (with_reducible rfl)
      try simp only [Act.put, List.setIfInBounds_toArray, List.set_cons_zero, List.set_cons_succ]
      refine wpAnyX_take (i := 9) (v := ?_) rfl (by kernel_rfl) (by kernel_rfl) (by kernel_rfl) (by kernel_rfl) (fun _ _ _ h => h) (Or.inl ⟨by rfl, ?_⟩) hH ?_
      rotate_left
      · intro W hS; (try dsimp only at hS); go_simp; all_goals (with_reducible rfl)
      try simp only [Act.put, List.setIfInBounds_toArray, List.set_cons_zero, List.set_cons_succ]
      refine wpAnyX_take (i := 10) (v := ?_) rfl (by kernel_rfl) (by kernel_rfl) (by kernel_rfl) (by kernel_rfl) (fun _ _ _ h => h) (Or.inl ⟨by rfl, ?_⟩) hH ?_
      rotate_left
      · intro W hS; (try dsimp only at hS); go_simp; all_goals (with_reducible rfl)
      try simp only [Act.put, List.setIfInBounds_toArray, List.set_cons_zero, List.set_cons_succ]
      refine wpAnyX_take (i := 13) (v := ?_) rfl (by kernel_rfl) (by kernel_rfl) (by kernel_rfl) (by kernel_rfl) (fun _ _ _ h => h) (Or.inl ⟨by rfl, ?_⟩) hH ?_
      rotate_left
      · intro W hS; (try dsimp only at hS); go_simp; all_goals (with_reducible rfl)
      try simp only [Act.put, List.setIfInBounds_toArray, List.set_cons_zero, List.set_cons_succ]
      refine wpAnyX_take (i := 14) (v := ?_) rfl (by kernel_rfl) (by kernel_rfl) (by kernel_rfl) (by kernel_rfl) (fun _ _ _ h => h) (Or.inl ⟨by rfl, ?_⟩) hH ?_
      rotate_left
      · intro W hS; (try dsimp only at hS); go_simp; all_goals (with_reducible rfl)
      try simp only [Act.put, List.setIfInBounds_toArray, List.set_cons_zero, List.set_cons_succ]
      refine wpAnyX_take (i := 15) (v := ?_) rfl (by kernel_rfl) (by kernel_rfl) (by kernel_rfl) (by kernel_rfl) (fun _ _ _ h => h) (Or.inl ⟨by rfl, ?_⟩) hH ?_
      rotate_left
      · intro W hS; (try dsimp only at hS); go_simp; all_goals (with_reducible rfl)
      try simp only [Act.put, List.setIfInBounds_toArray, List.set_cons_zero, List.set_cons_succ]
      refine wpAnyX_take (i := 16) (v := ?_) rfl (by kernel_rfl) (by kernel_rfl) (by kernel_rfl) (by kernel_rfl) (fun _ _ _ h => h) (Or.inl ⟨by rfl, ?_⟩) hH ?_
      rotate_left
      · intro W hS; (try dsimp only at hS); go_simp; all_goals (with_reducible rfl)
      try simp only [Act.put, List.setIfInBounds_toArray, List.set_cons_zero, List.set_cons_succ]
      refine wpAnyX_take (i := 17) (v := ?_) rfl (by kernel_rfl) (by kernel_rfl) (by kernel_rfl) (by kernel_rfl) (fun _ _ _ h => h) (Or.inl ⟨by rfl, ?_⟩) hH ?_
      rotate_left
      · intro W hS; (try dsimp only at hS); go_simp; all_goals (with_reducible rfl)
      try simp only [Act.put, List.setIfInBounds_toArray, List.set_cons_zero, List.set_cons_succ]
      refine wpAnyX_take (i := 21) (v := ?_) rfl (by kernel_rfl) (by kernel_rfl) (by kernel_rfl) (by kernel_rfl) (fun _ _ _ h => h) (Or.inl ⟨by rfl, ?_⟩) hH ?_
      rotate_left
      · intro W hS; (try dsimp only at hS); go_simp; all_goals (with_reducible rfl)
      try simp only [Act.put, List.setIfInBounds_toArray, List.set_cons_zero, List.set_cons_succ]
      refine wpAnyX_take (i := 22) (v := ?_) rfl (by kernel_rfl) (by kernel_rfl) (by kernel_rfl) (by kernel_rfl) (fun _ _ _ h => h) (Or.inl ⟨by rfl, ?_⟩) hH ?_
      rotate_left
      · intro W hS; (try dsimp only at hS); go_simp; all_goals (with_reducible rfl)
      try simp only [Act.put, List.setIfInBounds_toArray, List.set_cons_zero, List.set_cons_succ]
      refine wpAnyX_take (i := 23) (v := ?_) rfl (by kernel_rfl) (by kernel_rfl) (by kernel_rfl) (by kernel_rfl) (fun _ _ _ h => h) (Or.inl ⟨by rfl, ?_⟩) hH ?_
      rotate_left
      · intro W hS; (try dsimp only at hS); go_simp; all_goals (with_reducible rfl)
      try simp only [Act.put, List.setIfInBounds_toArray, List.set_cons_zero, List.set_cons_succ]
      refine wpAnyX_take (i := 24) (v := ?_) rfl (by kernel_rfl) (by kernel_rfl) (by kernel_rfl) (by kernel_rfl) (fun _ _ _ h => h) (Or.inl ⟨by rfl, ?_⟩) hH ?_
      rotate_left
      · intro W hS; (try dsimp only at hS); go_simp; all_goals (with_reducible rfl)
      try simp only [Act.put, List.setIfInBounds_toArray, List.set_cons_zero, List.set_cons_succ]
      have hga4 : ga < wr.heap.size := by omega
      have HS : Hid (∀ W, Below wr.heap.size wr W → W.cell? ⟨ga, oa + j * 3, none⟩ = some (.int .i64 pm) ∧ W.cell? ⟨ga, oa + j * 3 + 1, none⟩ = some (.int .i64 pi) ∧ W.cell? ⟨ga, oa + j * 3 + 2, none⟩ = some (.int .i64 pd) ∧ W.cell? ⟨ga, oa + (j + 1) * 3, none⟩ = some (.int .i64 qm) ∧ W.cell? ⟨ga, oa + (j + 1) * 3 + 1, none⟩ = some (.int .i64 qi) ∧ W.cell? ⟨ga, oa + (j + 1) * 3 + 2, none⟩ = some (.int .i64 qd) ∧ W.cell? ⟨gr, j * 3, none⟩ = some (.int .i64 sm) ∧ W.cell? ⟨gr, j * 3 + 1, none⟩ = some (.int .i64 si) ∧ W.cell? ⟨gr, j * 3 + 2, none⟩ = some (.int .i64 sd)) := fun W hb => ⟨(hb.cell (p := ⟨ga, oa + j * 3, none⟩) hga4).trans p0, (hb.cell (p := ⟨ga, oa + j * 3 + 1, none⟩) hga4).trans p1, (hb.cell (p := ⟨ga, oa + j * 3 + 2, none⟩) hga4).trans p2, (hb.cell (p := ⟨ga, oa + (j + 1) * 3, none⟩) hga4).trans q0, (hb.cell (p := ⟨ga, oa + (j + 1) * 3 + 1, none⟩) hga4).trans q1, (hb.cell (p := ⟨ga, oa + (j + 1) * 3 + 2, none⟩) hga4).trans q2, (hb.cell (p := ⟨gr, j * 3, none⟩) hgrl).trans s0, (hb.cell (p := ⟨gr, j * 3 + 1, none⟩) hgrl).trans s1, (hb.cell (p := ⟨gr, j * 3 + 2, none⟩) hgrl).trans s2⟩
      clear p0 p1 p2 q0 q1 q2 s0 s1 s2 u0 u1 u2 z0 z1 z2
      refine wpAnyX_step (i := 7) (by kernel_rfl) rfl (by kernel_rfl) (fun K hK => ?_)
      go_simp
      go_at_call 22
      refine (cP _).mono ?_
      rintro e w7 ⟨rfl, hb7⟩
      have B7 : Below wr.heap.size wr w7 := ⟨hb7.os, hb7.tape, hb7.output, hb7.size, hb7.block⟩
      clear hH hb7
      have hH := HS.out w7 B7
      refine hK.out _ _ hH ?_
      clear hK K
      try simp only [Act.put, List.setIfInBounds_toArray, List.set_cons_zero, List.set_cons_succ]
      refine wpAnyX_take (i := 8) (v := ?_) rfl (by kernel_rfl) (by kernel_rfl) (by kernel_rfl) (by kernel_rfl) (fun _ _ _ h => h) (Or.inl ⟨by rfl, ?_⟩) hH ?_
      rotate_left
      · intro W hS; (try dsimp only at hS); go_simp; all_goals (with_reducible rfl)
      try simp only [Act.put, List.setIfInBounds_toArray, List.set_cons_zero, List.set_cons_succ]
      refine wpAnyX_step (i := 11) (by kernel_rfl) rfl (by kernel_rfl) (fun K hK => ?_)
      go_simp
      go_at_call 23
      refine (cC _).mono ?_
      rintro e w8 ⟨rfl, rfl⟩
      refine hK.out _ _ hH ?_
      clear hK K
      try simp only [Act.put, List.setIfInBounds_toArray, List.set_cons_zero, List.set_cons_succ]
      refine wpAnyX_take (i := 12) (v := ?_) rfl (by kernel_rfl) (by kernel_rfl) (by kernel_rfl) (by kernel_rfl) (fun _ _ _ h => h) (Or.inl ⟨by rfl, ?_⟩) hH ?_
      rotate_left
      · intro W hS; (try dsimp only at hS); go_simp; all_goals (with_reducible rfl)
      try simp only [Act.put, List.setIfInBounds_toArray, List.set_cons_zero, List.set_cons_succ]
      refine wpAnyX_step (i := 18) (by kernel_rfl) rfl (by kernel_rfl) (fun K hK => ?_)
      go_simp
      go_at_call 22
      refine (cQ _).mono ?_
      rintro e w9 ⟨rfl, hb9⟩
      have B9 : Below wr.heap.size wr w9 := B7.trans (hb9.mono B7.size)
      clear hH hb9
      have hH := HS.out w9 B9
      refine hK.out _ _ hH ?_
      clear hK K
      try simp only [Act.put, List.setIfInBounds_toArray, List.set_cons_zero, List.set_cons_succ]
      refine wpAnyX_take (i := 19) (v := ?_) rfl (by kernel_rfl) (by kernel_rfl) (by kernel_rfl) (by kernel_rfl) (fun _ _ _ h => h) (Or.inl ⟨by rfl, ?_⟩) hH ?_
      rotate_left
      · intro W hS; (try dsimp only at hS); go_simp; all_goals (with_reducible rfl)
      try simp only [Act.put, List.setIfInBounds_toArray, List.set_cons_zero, List.set_cons_succ]
      refine wpAnyX_take (i := 20) (v := ?_) rfl (by kernel_rfl) (by kernel_rfl) (by kernel_rfl) (by kernel_rfl) (fun _ _ _ h => h) (Or.inl ⟨by rfl, ?_⟩) hH ?_
      rotate_left
      · intro W hS; (try dsimp only at hS); go_simp; all_goals (with_reducible rfl)
      try simp only [Act.put, List.setIfInBounds_toArray, List.set_cons_zero, List.set_cons_succ]
      refine wpAnyX_step (i := 25) (by kernel_rfl) rfl (by kernel_rfl) (fun K hK => ?_)
      go_simp
      go_at_call 22
      refine (cS _).mono ?_
      rintro e wA ⟨rfl, hbA⟩
      have BA : Below wr.heap.size wr wA := B9.trans (hbA.mono B9.size)
      clear hH hbA
      have hH := HS.out wA BA
      refine hK.out _ _ hH ?_
      clear hK K
      try simp only [Act.put, List.setIfInBounds_toArray, List.set_cons_zero, List.set_cons_succ]
      refine wpAnyX_take (i := 26) (v := ?_) rfl (by kernel_rfl) (by kernel_rfl) (by kernel_rfl) (by kernel_rfl) (fun _ _ _ h => h) (Or.inl ⟨by rfl, ?_⟩) hH ?_
      rotate_left
      · intro W hS; (try dsimp only at hS); go_simp; all_goals (with_reducible rfl)
      try simp only [Act.put, List.setIfInBounds_toArray, List.set_cons_zero, List.set_cons_succ]
      refine wpAnyX_take (i := 27) (v := ?_) rfl (by kernel_rfl) (by kernel_rfl) (by kernel_rfl) (by kernel_rfl) (fun _ _ _ h => h) (Or.inl ⟨by rfl, ?_⟩) hH ?_
      rotate_left
      · intro W hS; (try dsimp only at hS); go_simp; all_goals (with_reducible rfl)
      try simp only [Act.put, List.setIfInBounds_toArray, List.set_cons_zero, List.set_cons_succ]
      refine wpAnyX_take (i := 28) (v := ?_) rfl (by kernel_rfl) (by kernel_rfl) (by kernel_rfl) (by kernel_rfl) (fun _ _ _ h => h) (Or.inl ⟨by rfl, ?_⟩) hH ?_
      rotate_left
      · intro W hS; (try dsimp only at hS); go_simp; all_goals (with_reducible rfl)
      try simp only [Act.put, List.setIfInBounds_toArray, List.set_cons_zero, List.set_cons_succ]
      refine wpAnyX_take (i := 29) (v := ?_) rfl (by kernel_rfl) (by kernel_rfl) (by kernel_rfl) (by kernel_rfl) (fun _ _ _ h => h) (Or.inl ⟨by rfl, ?_⟩) hH ?_
      rotate_left
      · intro W hS; (try dsimp only at hS); go_simp; all_goals (with_reducible rfl)
      try simp only [Act.put, List.setIfInBounds_toArray, List.set_cons_zero, List.set_cons_succ]
      have hrA := HRO.out wA BA
      obtain ⟨⟨t0, u0⟩, z0⟩ := hrA.any ((j + 1) * 3) (by omega)
      obtain ⟨⟨t1, u1⟩, z1⟩ := hrA.any ((j + 1) * 3 + 1) (by omega)
      obtain ⟨⟨t2, u2⟩, z2⟩ := hrA.any ((j + 1) * 3 + 2) (by omega)
      have HRA : Hid (RowP wA gr (m + 1) h (j + 1)) := hrA
      have HBA : Hid (Below gr w3 wA) := HBEL.out.trans (BA.mono (by omega))
      clear hrA BA B9 B7 hH
      refine wpAnyX_last (i := 30) (by kernel_rfl) rfl (by kernel_rfl) (by kernel_rfl) (fun K hK => ?_)
      go_simp
      refine hK.out _ _ ?_
      clear hK K
      try simp only [Act.put, List.setIfInBounds_toArray, List.set_cons_zero, List.set_cons_succ]
      go_wp2_with fail
      go_roundw
      case rel =>
        refine ⟨j + 1, by omega, by go_num, ?_, ?_⟩
        · exact HRA.out.set (by omega) _ _ _ HHJ.out
        · exact ((HBA.out.setCell (p := ⟨gr, (j + 1) * 3, none⟩) (Nat.le_refl _) _).setCell (p := ⟨gr, (j + 1) * 3 + 1, none⟩) (Nat.le_refl _) _).setCell (p := ⟨gr, (j + 1) * 3 + 2, none⟩) (Nat.le_refl _) _
      case measure => simp [intOf]; omega
    · have hje : j = m := by omega
      subst hje
      have hVN := hrow.own (base := base) hbg (by unfold maxLen; omega)
      have hsz := hbel.size
      have hw3 : ∀ g, g < w3.heap.size → wr.heap[g]? = w3.heap[g]? := fun g hg => hbel.block g (by rw [HGR.out]; exact hg)
      have hR := HR3.out.other (w' := wr) (fun g _ hlt => hw3 g hlt)
      have hF := H23.out.other (w' := wr) (fun g _ hlt => hw3 g hlt)
      have hW := H33.out.other (w' := wr) (fun g _ hlt => hw3 g hlt)
      have HR : Hid (OwnR wr base 3 1 (.slice (some ⟨g', o', none⟩) (k + 1) cap') (k + 1) (numV (R ++ [x]))) := hR
      have HF : Hid (OwnR wr base 3 1 (.slice af j cf) j (numV F)) := hF
      have HW : Hid (OwnR wr base 45 1 (.slice (some ⟨gw, ow, none⟩) (k + 1) cw) (k + 1) VS) := hW
      have HVN : Hid (OwnR wr base 47 3 (.slice (some ⟨gr, 0, none⟩) (j + 1) (j + 1)) (j + 1) (celsL h (j + 1))) := hVN
      have HOL : Hid (∀ v n xs, OwnR w base 47 3 v n xs → OwnR wr base 47 3 v n xs) := fun v n xs hv => (HOLD.out v n xs hv).other (fun g _ hlt => hw3 g hlt)
      have HBX : Hid (Below base w wr) := HBE.out.trans (hbel.mono hbg)
      have HBR : Hid (wr.heap[B]? = some (.cells #[.slice (some ⟨g', o', none⟩) (k + 1) cap', .slice af j cf, .slice (some ⟨gw, ow, none⟩) (k + 1) cw] 50 (0, 0))) := (hbel.block B hB3).trans HUH.out
      have x2 : wr.cell? ⟨B, 2, none⟩ = some (.slice (some ⟨gw, ow, none⟩) (k + 1) cw) := cell_at HBR.out rfl
      have hBr : B < wr.heap.size := by rw [HGR.out] at hB3; omega
      have hbr : base ≤ wr.heap.size := by omega
      clear hVN hw3 hR hF hW hrow hbel
      go_wp2_with (at_builtin; go_must (refine wpList_own _ rfl (.tmp 84) (.tmp 86) 48 rfl 45 is _ 1 24 Tryd.underlying48 his hs0 hs1 hs2 rfl (by decide) base (.slice (some ⟨gw, ow, none⟩) (k + 1) cw) (k + 1) VS rfl (by exact HW.out.alloc _) ⟨wr.heap.size, 0, none⟩ 1 [.slice (some ⟨gr, 0, none⟩) (j + 1) (j + 1)] rfl rfl (by exact box_at wr [.slice (some ⟨gr, 0, none⟩) (j + 1) (j + 1)] 45 _ rfl) (by intro u hu; simp only [List.mem_cons, List.not_mem_nil, or_false] at hu; subst hu; rfl) (by unfold maxLen; omega) (by omega) (by simp; omega) ?_; intro g9 o9 cap9 w8 hown8 hfr8; have hB8 : w8.heap[B]? = some (.cells #[.slice (some ⟨g', o', none⟩) (k + 1) cap', .slice af j cf, .slice (some ⟨gw, ow, none⟩) (k + 1) cw] 50 (0, 0)) := (hfr8.other B (by simp; omega) (HW.out.tag (by decide) HBR.out)).trans ((Below.heap_alloc _ _ _ hBr).trans HBR.out); have HB8 : Hid (w8.heap[B]? = some (.cells #[.slice (some ⟨g', o', none⟩) (k + 1) cap', .slice af j cf, .slice (some ⟨gw, ow, none⟩) (k + 1) cw] 50 (0, 0))) := hB8; have q1 := cell_at hB8 (i := 2) rfl; have qf : w8.frozen? ⟨B, 2, none⟩ = false := frozen_of_row w8 _ _ _ _ hB8; clear hB8))
      go_end0
      have hu := Upd.of_setCell (i := 2) (.slice (some ⟨g9, o9, none⟩) (k + 1 + 1) cap9) HB8.out
      have hWa := HW.out.alloc (.cells #[.slice (some ⟨gr, 0, none⟩) (j + 1) (j + 1)] 45)
      have fr : ∀ {e : TypeId} {size : Nat} {v : Value} {n : Nat} {xs : List Value}, e ≠ 45 → e ≠ 50 → OwnR wr base e size v n xs → OwnR (w8.setCell ⟨B, 2, none⟩ (.slice (some ⟨g9, o9, none⟩) (k + 1 + 1) cap9)) base e size v n xs := by
        intro e size v n xs he1 he2 hv
        have hv8 := (hv.alloc (.cells #[.slice (some ⟨gr, 0, none⟩) (j + 1) (j + 1)] 45)).app hWa he1 hfr8
        exact hv8.setOther _ (hv8.tag (Ne.symm he2) HB8.out)
      refine ⟨rfl, _, _, _, hu.here, fr (by decide) (by decide) HR.out, fr (by decide) (by decide) HF.out, hown8.setOther _ (hown8.tag (by decide) HB8.out), fr (by decide) (by decide) HVN.out, HD3.out, fun v n xs hv => fr (by decide) (by decide) (HOL.out v n xs hv), ?_⟩
      exact (HBX.out.trans (((Below.refl base wr).alloc hbr _).trans (hfr8.below (fun g hg => (HW.out.lt hg).1) (by simp; omega)))).trans (hu.below hbB)
end Go.Proofs.YtilcmkiihefkkaaDoor
