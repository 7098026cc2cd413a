import Derived.Test.YtilcmkiihefkkabGreatDoorJk25
import Derived.Test.YtilcmkiihefkkabGreatDoorJk26
import Derived.Test.YtilcmkiihefkkabGreatDoorJk31
import Derived.Test.YtilcmkiihefkkabGreatDoorJk42
import Derived.Test.YtilcmkiihefkkabGreatDoorJk43
import Derived.Test.YtilcmkiihefkkabGreatDoorJk46
section
set_option linter.unusedVariables false
set_option linter.unusedSimpArgs false
set_option maxRecDepth 100000
namespace Go.Proofs.YtilcmkiihefkkabGreatDoor.Mn
open Go.RowKit Go.Shelf Go.Lib
attribute [local go_sem] run_store_flt
theorem Tryz.info46x : (Tryz.prog.info? 46).map (fun i => (i.zero, i.size, i.bytes)) = some (some zFound, 13, 128) := by kernel_rfl
def foundsC (L : List FD) : List Value := L.flatMap FD.cells
theorem foundsC_snoc (L : List FD) (f : FD) : foundsC (L ++ [f]) = foundsC L ++ f.cells := by simp [foundsC]
/-- what is told of reads, one by one -/
def FindsR (R : List S2) (k W sc : Nat) (P : List S2) (rs : List (Option FD)) : Prop := ∀ j, j < rs.length → FindR R k W sc (P.getD j S0).n (P.getD j S0).b (rs.getD j none)
theorem FindsR.snoc {R : List S2} {k W sc : Nat} {P : List S2} {rs : List (Option FD)} (h : FindsR R k W sc P rs) (r : Option FD) (hr : FindR R k W sc (P.getD rs.length S0).n (P.getD rs.length S0).b r) : FindsR R k W sc P (rs ++ [r]) := by
  intro j hj
  simp only [List.length_append, List.length_cons, List.length_nil] at hj
  by_cases hlt : j < rs.length
  · have := h j hlt
    simpa [List.getD_eq_getElem?_getD, List.getElem?_append_left hlt] using this
  · have e : j = rs.length := by omega
    subst e
    simpa [List.getD_eq_getElem?_getD] using hr
/-- what Map answers -/
def MapP (R : List S2) (k W sc : Nat) (s : ByteArray) (w : World) (e : Ending) (w' : World) : Prop :=
  ∃ v, e = .returned (.tuple #[v, .int .i64 (parseR s).2.1, .int .i64 (parseR s).2.2]) ∧ Below w.heap.size w w' ∧ ((parseR s).2.1 ≠ 0 → v = .slice none 0 0) ∧
    ((parseR s).2.1 = 0 → ∃ rs : List (Option FD), rs.length = (parseR s).1.length ∧ FindsR R k W sc (parseR s).1 rs ∧ OwnR w' w.heap.size 46 13 v (rs.filterMap id).length (foundsC (rs.filterMap id)))
theorem fbox_cells (W : World) (f : FD) (s : Nat) (hs : s = W.heap.size) : ∀ j u, (f.cells)[j]? = some u → (W.alloc (.cells #[.string f.rd, .int .i64 f.fr, .int .i64 f.tl, .bool f.bk, .string f.sn, .int .i64 f.st, .int .i64 f.en, .float .f64 (fq f.sq), .float .f64 (fq f.oq), .int .i64 f.ql, .string ⟨f.sc.toArray⟩, .int .i64 f.sm, .float .f64 f.id] 46)).cell? ((⟨s, 0, none⟩ : Addr).add j) = some u := by
  intro j u hj
  subst hs
  rw [Addr.add_lit, Nat.zero_add]
  refine cell_at (heap_alloc_new W _) ?_
  simpa [FD.cells] using hj
theorem fd_one (f : FD) : ∀ u ∈ f.cells, u.oneCell' = true := by
  intro u hu
  simp [FD.cells] at hu
  rcases hu with rfl | rfl | rfl | rfl | rfl | rfl | rfl | rfl | rfl | rfl | rfl | rfl | rfl <;> rfl
/-- find may be asked -/
def FdC (R : List S2) (base X k W sc : Nat) (w : World) : Prop := ∀ (w1 : World) (rn rb : ByteArray), Below w.heap.size w w1 → rb.size ≤ 140737488351232 → good rb →
    Calls Tryz.prog 28 #[.pointer (some ⟨X, 0, none⟩), .agg #[.string rn, .string rb]] w1 fun e w' => FiP R k W sc rn rb w1 e w'
set_option maxHeartbeats 8000000 in
theorem Map_of (R : List S2) (base X k W sc : Nat) (s : ByteArray) (w : World) (hs : s.size ≤ 140737488351232) (hC : FdC R base X k W sc w) :
    Calls Tryz.prog 11 #[.pointer (some ⟨X, 0, none⟩), .string s] w fun e w' => MapP R k W sc s w e w' := by
  obtain ⟨i0, hi, hz0, hz1, hz2⟩ := info_parts Tryz.info46x
  have HP := (show Hid _ from parseR_ok s)
  have cP : ∀ W1, _ := fun W1 => parse_any s W1 hs
  by_cases he : (parseR s).2.1 = 0
  · have hline : (parseR s).2.2 = 0 := by
      by_cases h8 : 8000 < s.size
      · unfold parseR at he; rw [if_pos h8] at he; cases he
      · unfold parseR at he ⊢; rw [if_neg h8] at he ⊢; exact parseL_zero _ _ _ he
    have HMP : Hid (∀ v w' rs, Below w.heap.size w w' → rs.length = (parseR s).1.length → FindsR R k W sc (parseR s).1 rs → OwnR w' w.heap.size 46 13 v (rs.filterMap id).length (foundsC (rs.filterMap id)) → MapP R k W sc s w (.returned (.tuple #[v, .int .i64 0, .int .i64 0])) w') := by
      intro v w' rs h1 h2 h3 h4
      refine ⟨v, by rw [he, hline]; rfl, h1, fun h => absurd he h, fun _ => ⟨rs, h2, h3, h4⟩⟩
    rw [he, hline] at cP
    obtain ⟨P, hP⟩ : ∃ P, P = (parseR s).1 := ⟨_, rfl⟩
    rw [← hP] at cP HP HMP
    clear he hline hP
    have HC := (show Hid _ from hC)
    clear hC
    go_enter Tryz.func11, Tryz.ntmps11
    go_wp2_with fail
    refine (cP w).mono ?_
    rintro e w2 ⟨v, rfl, hown, _, hb2⟩
    obtain ⟨ao, cp, rfl⟩ := hown.form
    obtain ⟨n, hn⟩ : ∃ n, n = P.length := ⟨_, rfl⟩
    have HN : Hid (n = P.length) := hn
    rw [← hn] at hown ⊢
    have hn8 : n ≤ 8000 := by rw [hn]; exact HP.out.1
    have HO : Hid (OwnR w2 w.heap.size 62 2 (.slice ao n cp) n (qcells P)) := hown
    have HB2 : Hid (Below w.heap.size w w2) := hb2
    have hsh : n ≠ 0 → ∃ g o, ao = some ⟨g, o, none⟩ ∧ g < w2.heap.size := by
      intro h0
      rcases hown.2 with ⟨_, h'⟩ | ⟨g, o, cap, cur, h, _, hg, _⟩
      · exact absurd h' h0
      · simp only [Value.slice.injEq] at h
        exact ⟨g, o, h.1, lt_of_block hg⟩
    clear hown hb2 hn cP
    go_wp2_with fail
    go_loopw [10, 27] (fun tv i wr => ∃ (j : Nat) (rs : List (Option FD)), j ≤ n ∧ i = .int .i64 j ∧ rs.length = j ∧ FindsR R k W sc P rs ∧ OwnR wr w.heap.size 46 13 tv (rs.filterMap id).length (foundsC (rs.filterMap id)) ∧ Below w2.heap.size w2 wr ∧ (rs.filterMap id).length ≤ j ∧ (∀ g, tv.ownBlock = some g → w2.heap.size ≤ g)) (fun _ i _ => n - (RowKit.intOf i).toNat)
    case atStart => exact ⟨0, [], Nat.zero_le _, rfl, rfl, fun j hj => absurd hj (Nat.not_lt_zero _), OwnR.nil _ _ _ _, Below.refl _ _, Nat.le_refl _, fun g hg => by cases hg⟩
    case round =>
      obtain ⟨j, rs, hj, rfl, hrl, hrs, hto, hbr, hlj, hfr0⟩ := hrel
      have HRS : Hid (FindsR R k W sc P rs) := hrs
      have HTO : Hid (OwnR wr w.heap.size 46 13 u10 (rs.filterMap id).length (foundsC (rs.filterMap id))) := hto
      have HBR : Hid (Below w2.heap.size w2 wr) := hbr
      have HFR0 : Hid (∀ g, u10.ownBlock = some g → w2.heap.size ≤ g) := hfr0
      have HRL : Hid (rs.length = j) := hrl
      obtain ⟨m, hm⟩ : ∃ m, m = (rs.filterMap id).length := ⟨_, rfl⟩
      have HM : Hid (m = (rs.filterMap id).length) := hm
      rw [← hm] at hlj hto
      obtain ⟨at', ct, hu⟩ := hto.form
      subst hu
      clear hrs hbr hfr0 hm hrl
      by_cases hlt : j < n
      · obtain ⟨g, o, rfl, hgl⟩ := hsh (by omega)
        have hjP : j < P.length := by have := HN.out; omega
        have hc := (HO.out.other (w' := wr) (fun g' _ hlt' => HBR.out.block g' hlt')).seqs j hjP
        obtain ⟨x, hx⟩ : ∃ x, x = P[j] := ⟨_, rfl⟩
        rw [← hx] at hc
        obtain ⟨d0, d1⟩ := hc
        have hxP : x ∈ P := by rw [hx]; exact List.getElem_mem _
        have hxg := HP.out.2 x hxP
        have HX : Hid (P.getD j S0 = x) := by show _ = _; rw [getD_get _ _ _ hjP, hx]
        have hbw : Below w.heap.size w wr := HB2.out.trans (HBR.out.mono HB2.out.size)
        have cF := fun W1 hW1 => HC.out W1 x.n x.b hW1 (by have := hxg.2.2; omega) hxg.1
        clear hx hxg
        go_wp2_with fail
        refine (cF _ (hbw.alloc hbw.size _)).mono ?_
        rintro e w3 ⟨res, hres, rfl, hb3⟩
        have HRES : Hid (FindR R k W sc x.n x.b res) := hres
        have hb3r : Below wr.heap.size wr w3 := ((Below.refl _ wr).alloc (Nat.le_refl _) _).trans (hb3.mono (by simp))
        have HB3 : Hid (Below wr.heap.size wr w3) := hb3r
        have hto3 : OwnR w3 w.heap.size 46 13 (.slice at' m ct) m (foundsC (rs.filterMap id)) := hto.other (fun g' _ hg' => hb3r.block g' hg')
        have HT3 : Hid (∀ g, (Value.slice at' m ct).ownBlock = some g → w2.heap.size ≤ g ∧ g < w3.heap.size) := fun g' hg' => ⟨HFR0.out g' hg', (hto3.lt hg').2⟩
        have hbs3 : w.heap.size ≤ w3.heap.size := Nat.le_trans hbw.size hb3r.size
        clear cF hres hb3 hb3r hto d0 d1
        cases res with
        | none =>
          simp only [resV, zFound]
          go_wp2
          go_roundw
          case rel =>
            refine ⟨j + 1, rs ++ [none], by omega, by go_num, by simp [HRL.out], FindsR.snoc HRS.out none (by rw [HRL.out, HX.out]; exact HRES.out), ?_, ?_, ?_, ?_⟩
            · have e : (rs ++ [none]).filterMap id = rs.filterMap id := by simp
              rw [e, ← HM.out]
              exact hto3.other (fun g' _ hg' => Below.heap_alloc _ _ _ hg')
            · exact (HBR.out.trans (HB3.out.mono HBR.out.size)).alloc (Nat.le_trans HBR.out.size HB3.out.size) _
            · have e : (rs ++ [none]).filterMap id = rs.filterMap id := by simp
              rw [e, ← HM.out]; omega
            · exact fun g' hg' => (HT3.out g' hg').1
          case measure => simp [RowKit.intOf]; omega
        | some f =>
          simp only [resV, FD.cells]
          go_wp2_with (at_builtin; refine wpList_own _ rfl (.tmp 38) (.tmp 40) 37 rfl 46 i0 _ 13 128 Tryz.underlying37 hi hz0 hz1 hz2 rfl (by decide) w.heap.size (.slice at' m ct) m (foundsC (rs.filterMap id)) rfl (by exact (hto3.other (fun g' _ hg' => Below.heap_alloc _ _ _ hg')).other (fun g' _ hg' => Below.heap_alloc _ _ _ hg')) ⟨w3.heap.size + 1, 0, none⟩ 1 f.cells rfl rfl (by exact fbox_cells _ f _ (by simp)) (fd_one f) (by unfold maxLen; omega) (by omega) (by simp; omega) ?_; intro g' o' cap' w8 hown' hfr)
          go_roundw
          case rel =>
            have e : (rs ++ [some f]).filterMap id = rs.filterMap id ++ [f] := by simp
            refine ⟨j + 1, rs ++ [some f], by omega, by go_num, by simp [HRL.out], FindsR.snoc HRS.out (some f) (by rw [HRL.out, HX.out]; exact HRES.out), ?_, ?_, ?_, ?_⟩
            · rw [e, foundsC_snoc, List.length_append, ← HM.out]
              exact hown'
            · have h1 := ((HBR.out.trans (HB3.out.mono HBR.out.size)).alloc (Nat.le_trans HBR.out.size HB3.out.size) (Obj.cells #[.string f.rd, .int .i64 f.fr, .int .i64 f.tl, .bool f.bk, .string f.sn, .int .i64 f.st, .int .i64 f.en, .float .f64 (fq f.sq), .float .f64 (fq f.oq), .int .i64 f.ql, .string ⟨f.sc.toArray⟩, .int .i64 f.sm, .float .f64 f.id] 46))
              have h2 := h1.alloc h1.size (Obj.cells #[.string f.rd, .int .i64 f.fr, .int .i64 f.tl, .bool f.bk, .string f.sn, .int .i64 f.st, .int .i64 f.en, .float .f64 (fq f.sq), .float .f64 (fq f.oq), .int .i64 f.ql, .string ⟨f.sc.toArray⟩, .int .i64 f.sm, .float .f64 f.id] 46)
              exact h2.trans (hfr.below (fun g' hg' => (HT3.out g' hg').1) h2.size)
            · rw [e, List.length_append, ← HM.out]; show m + 1 ≤ _; omega
            · intro g1 hg1
              have e1 : g' = g1 := by simpa [Value.ownBlock] using hg1
              subst e1
              rcases hfr.new with h | h
              · exact (HT3.out _ h).1
              · have h1 := HBR.out.size
                have h2 := HB3.out.size
                simp at h
                omega
          case measure => simp [RowKit.intOf]; omega
      · have hjn : j = n := by omega
        subst hjn
        go_wp2
        go_ret3
        exact HMP.out _ _ rs (HB2.out.trans (HBR.out.mono HB2.out.size)) (by rw [HRL.out, HN.out]) HRS.out HTO.out
  · obtain ⟨en, hen⟩ : ∃ en, en = (parseR s).2.1 := ⟨_, rfl⟩
    obtain ⟨ln, hln⟩ : ∃ ln, ln = (parseR s).2.2 := ⟨_, rfl⟩
    have HMP : Hid (∀ w', Below w.heap.size w w' → MapP R k W sc s w (.returned (.tuple #[.slice none 0 0, .int .i64 en, .int .i64 ln])) w') := by
      intro w' h1
      refine ⟨_, by rw [hen, hln], h1, fun _ => rfl, fun h => absurd h he⟩
    rw [← hen, ← hln] at cP
    rw [← hen] at he
    have heI : ¬ (en : Int) = 0 := by omega
    clear hen hln hC
    go_enter Tryz.func11, Tryz.ntmps11
    go_wp2_with fail
    refine (cP w).mono ?_
    rintro e w2 ⟨v, rfl, hown, _, hb2⟩
    have HB2 : Hid (Below w.heap.size w w2) := hb2
    clear hown hb2 cP
    go_wp2
    go_ret3
    exact HMP.out _ HB2.out
end Go.Proofs.YtilcmkiihefkkabGreatDoor.Mn
end
section
set_option linter.unusedVariables false
set_option linter.unusedSimpArgs false
set_option maxRecDepth 100000
namespace Go.Proofs.YtilcmkiihefkkabGreatDoor.Mn
open Go.RowKit Go.Shelf Go.Lib
theorem sum_mem (R : List S2) : ∀ j, j < R.length → (R.getD j S0).b.size ≤ sumN R R.length := fun j hj => by
  have h1 := sumN_mono R (j + 1) R.length hj
  have e : sumN R (j + 1) = sumN R j + (R.getD j S0).b.size := rfl
  omega
/-- what references must be -/
def RefsOK (R : List S2) : Prop := (∀ x ∈ R, good x.b ∧ 1 ≤ x.n.size ∧ x.n.size ≤ 8000 ∧ x.b.size ≤ 4000) ∧ R.length < 100000 ∧ sumN R R.length ≤ 4000
theorem parse_refs (s : ByteArray) (h : sumN (parseR s).1 (parseR s).1.length ≤ 4000) : RefsOK (parseR s).1 := by
  have hp := parseR_ok s
  refine ⟨fun x hx => ?_, by have := hp.1; omega, h⟩
  have hx1 := hp.2 x hx
  obtain ⟨j, hj, rfl⟩ := List.getElem_of_mem hx
  have hm := sum_mem (parseR s).1 j hj
  rw [getD_get _ _ _ hj] at hm
  exact ⟨hx1.1, hx1.2.1.1, by have := hx1.2.1.2.1; omega, by omega⟩
theorem Map_any (R : List S2) (base X k W sc : Nat) (s : ByteArray) (w : World) (hs : s.size ≤ 140737488351232) (hk1 : 1 ≤ k) (hk2 : k ≤ 12) (hW : 1 ≤ W) (hW2 : W ≤ 20) (hR : RefsOK R) (hI : IxP w base X R k W sc)
    (htab : Lib.TabBelow Tryz.prog w.heap.size w "internal/strconv.uint64pow10" .u64 Lib.pow10Tab) (hLt : LtP w) :
    Calls Tryz.prog 11 #[.pointer (some ⟨X, 0, none⟩), .string s] w fun e w' => MapP R k W sc s w e w' :=
  Map_of R base X k W sc s w hs (fun w1 rn rb hb h1 h2 => find_any R base X k W sc rn rb w1 hk1 hk2 hW hW2 hR.1 hR.2.1 hR.2.2 (hI.kept (fun g hg => hb.block g hg)) h1 h2 (tabOnM htab hb) (hLt.below hb))
set_option maxHeartbeats 1000000 in
theorem of_any (n : UInt8) (b : ByteArray) (w : World) (hb : b.size ≤ 100000) :
    Calls Tryz.prog 7 #[.string ⟨#[n]⟩, .string b] w fun e w' => e = .returned (.string ⟨(ofL n b).toArray⟩) ∧ Below w.heap.size w w' := by
  have hcv : ∀ W : World, W.cell? ⟨w.heap.size, 0, none⟩ = some (.int .u8 10) → _ := fun W h => _root_.Go.Proofs.YtilcmkiihefkkabGreatDoor.conv_one W w.heap.size 10 h
  have hc := hcv (w.alloc (.cells #[.int .u8 10] 5)) (cell_at (heap_alloc_new w _) rfl)
  have HE : Hid (((((⟨#[62]⟩ : ByteArray) ++ ⟨#[n]⟩) ++ ⟨#[10]⟩) ++ b) = ⟨(ofL n b).toArray⟩) := by
    apply ByteArray.ext
    simp [ofL]
  clear hcv
  go_enter Tryz.func7, Tryz.ntmps7
  go_wp2_with fail
  go_ret
  exact ⟨by rw [← HE.out]; rfl, (Below.refl _ w).alloc (Nat.le_refl _) _⟩
end Go.Proofs.YtilcmkiihefkkabGreatDoor.Mn
end
section
set_option linter.unusedVariables false
set_option linter.unusedSimpArgs false
set_option maxRecDepth 100000
namespace Go.Proofs.YtilcmkiihefkkabGreatDoor.Mn
open Go.RowKit
def exS : ByteArray := ⟨#[65, 67, 71, 84, 84, 71, 67, 65, 84, 84, 67, 65, 71, 71, 67, 84, 65, 65, 71, 67, 84, 84, 71, 71, 65, 67, 67, 65]⟩
def exR : List S2 := [⟨⟨#[97]⟩, exS⟩]
def exG : List (Int × Int) := [(0, 0), (1, 1), (3, 3), (4, 4), (5, 5), (6, 6), (7, 7), (9, 9), (10, 10), (12, 12), (14, 14), (16, 16), (18, 18), (19, 19), (21, 21), (22, 22)]
theorem ex_good : good exS := by
  have : ∀ c ∈ exS.data.toList, 0 ≤ numb c := by decide +kernel
  have h := list_good this
  simpa [exS] using h
theorem ex_cnt : (gat 5 2 exR exS).1 = 16 := by decide +kernel
theorem ex_f : (gat 5 2 exR exS).2 (0, false) = exG := by decide +kernel
theorem ex_t : (gat 5 2 exR exS).2 (0, true) = [] := by decide +kernel
theorem ex_srt : exG.Pairwise (fun a b => befB a b = true) := by decide +kernel
theorem ex_canon : canon exG = exG := (canon_unique exG exG (ex_srt.imp (fun h => (befB_iff _ _).1 h)) (fun _ => Iff.rfl)).symm
theorem ex_ch : chL 5 exG = [(0, 0), (4, 4), (9, 9), (14, 14), (18, 18), (22, 22)] := by
  unfold chL chT chM chT
  rw [ex_canon]
  decide +kernel
theorem ex_q : chQ 5 exG = 108 := by
  unfold chQ chT chM chT
  rw [ex_canon]
  decide +kernel
theorem ex_ans : ansQ exG 5 = 108 := by
  have h : errC exG 5 = 0 := by decide +kernel
  unfold ansQ
  rw [if_pos h, ex_q]
theorem ex_ord : ¬ FloatKind.f64.format.order (fq 108) 0 = some .lt := by decide +kernel
def exP : List UInt8 := [65, 67, 71, 84, 84, 71, 67, 65, 84, 84, 67, 65, 71, 71, 67, 84, 65, 65, 71, 67, 84, 84, 71, 71, 65, 67, 67]
theorem ex_ext : (exS.extract 0 27).data.toList = exP := by decide +kernel
theorem ex_self : scE exP exP = 0 ∧ scN exP exP = 27 ∧ scLn exP exP = 27 := by
  have h := sc_self exP (by decide +kernel) (by decide +kernel) (by decide)
  exact ⟨h.1, h.2.1, h.2.2⟩
theorem ex_shr : shr 27 27 = 4607182418800017408 := by decide +kernel
/-- what is told of the example -/
theorem ex_find (res : Option FD) (h : FindR exR 5 2 0 ⟨#[114]⟩ exS res) :
    ∃ ql sc, res = some ⟨⟨#[114]⟩, 0, 27, false, ⟨#[97]⟩, 0, 27, 108, 0, ql, sc, 27, 4607182418800017408⟩ := by
  have hsz : exS.size = 28 := rfl
  have hcnt := ex_cnt
  rcases h with ⟨h, _⟩ | ⟨_, h, _⟩ | ⟨_, _, C, hC, rfl⟩
  · omega
  · omega
  · have all : ∀ a ∈ C, a = ((⟨0, by omega⟩ : Fin 100000), false) := by
      intro a ha
      have hne := (hC.2 a).1 ha
      obtain ⟨x, hx⟩ := List.exists_mem_of_ne_nil _ hne
      have hb := (gat_mem 5 2 exR exS (sd a) x hx).bounds (by omega) (by omega) (by omega) (by intro y hy; simp [exR] at hy; subst hy; exact ex_good) ex_good
      have hR : exR.length = 1 := rfl
      obtain ⟨⟨n, hn⟩, b⟩ := a
      have hn0 : n = 0 := by
        have h1 := hb.2.1
        have h2 : (sd (⟨n, hn⟩, b)).1 = (n : Int) := rfl
        rw [h2, hR] at h1
        omega
      subst hn0
      cases b
      · rfl
      · exact absurd ex_t hne
    have hm0 : ((⟨0, by omega⟩ : Fin 100000), false) ∈ C := (hC.2 _).2 (by show (gat 5 2 exR exS).2 (0, false) ≠ []; rw [ex_f]; decide)
    have hCe : C = [((⟨0, by omega⟩ : Fin 100000), false)] := by
      cases C with
      | nil => cases hm0
      | cons a t =>
        have ea := all a (List.mem_cons_self)
        cases t with
        | nil => rw [ea]
        | cons b t' =>
          have eb := all b (List.mem_cons_of_mem _ (List.mem_cons_self))
          have hlt := (List.pairwise_cons.1 hC.1).1 b (List.mem_cons_self)
          rw [ea, eb] at hlt
          unfold ltC at hlt
          omega
    rw [hCe]
    have eG : (gat 5 2 exR exS).2 (sd ((⟨0, by omega⟩ : Fin 100000), false)) = exG := ex_f
    unfold findC
    dsimp only
    rw [eG]
    have e0 : c0 (chL ((5 : Nat) : Int) exG) = (0, 0) := by show c0 (chL 5 exG) = _; rw [ex_ch]; rfl
    have e1 : c1 (chL ((5 : Nat) : Int) exG) = (22, 22) := by show c1 (chL 5 exG) = _; rw [ex_ch]; rfl
    have eq : ansQ exG ((5 : Nat) : Int) = 108 := ex_ans
    rw [e0, e1, eq, if_neg ex_ord]
    have ea : ((bsOf false exS).extract ((0, 0) : Int × Int).1.toNat (((22, 22) : Int × Int).1.toNat + 5)).data.toList = exP := ex_ext
    have eb : ((exR.getD 0 S0).b.extract ((0, 0) : Int × Int).2.toNat (((22, 22) : Int × Int).2.toNat + 5)).data.toList = exP := ex_ext
    have eE : fnE 5 exS (exR.getD 0 S0).b false ((0, 0) : Int × Int).1.toNat ((0, 0) : Int × Int).2.toNat ((22, 22) : Int × Int).1.toNat ((22, 22) : Int × Int).2.toNat = 0 := by
      unfold fnE
      rw [ea, eb]
      exact ex_self.1
    rw [if_pos eE]
    refine ⟨qual 108 0, scT exP exP, ?_⟩
    unfold fdOf
    dsimp only
    rw [ea, eb, ex_self.2.1, ex_self.2.2, ex_shr]
    rfl
end Go.Proofs.YtilcmkiihefkkabGreatDoor.Mn
end
section
set_option linter.unusedVariables false
set_option linter.unusedSimpArgs false
set_option maxRecDepth 100000
namespace Go.Proofs.YtilcmkiihefkkabGreatDoor.Mn
open Go.RowKit Go.Shelf Go.Lib
attribute [local go_sem] run_store_flt
theorem ex_parse : parseR ⟨(ofL 97 exS).toArray⟩ = (exR, 0, 0) := parse_of 97 exS ex_good (by decide) (by decide) (by decide)
theorem ex_parse2 : parseR ⟨(ofL 114 exS).toArray⟩ = ([⟨⟨#[114]⟩, exS⟩], 0, 0) := parse_of 114 exS ex_good (by decide) (by decide) (by decide)
theorem ex_opt : optB 5 2 0 = true := by decide +kernel
theorem ex_new : newR ⟨(ofL 97 exS).toArray⟩ 5 2 0 = (0, 0) := by
  unfold newR
  rw [if_pos ex_opt, ex_parse, if_pos rfl]
  rfl
/-- the first of the founds, as it lies -/
theorem found0 {w : World} {base : Nat} {v : Value} {f : FD} (h : OwnR w base 46 13 v 1 (foundsC [f])) : ∃ g o cp, v = .slice (some ⟨g, o, none⟩) 1 cp ∧ g < w.heap.size ∧ base ≤ g ∧ ∀ j u, f.cells[j]? = some u → w.cell? ⟨g, o + j, none⟩ = some u := by
  rcases h.2 with ⟨_, h0⟩ | ⟨g, o, cap, cur, hv, hb, hg, _, _, _, hc⟩
  · cases h0
  · refine ⟨g, o, cap, hv, lt_of_block hg, hb, fun j u hj => cell_at hg (hc j u ?_)⟩
    simpa [foundsC] using hj
set_option maxHeartbeats 8000000 in
theorem finds_any (w : World) (htab : Lib.TabBelow Tryz.prog w.heap.size w "internal/strconv.uint64pow10" .u64 Lib.pow10Tab) (hLt : LtP w) :
    Calls Tryz.prog 4 #[] w fun e w' => e = .returned (.bool true) ∧ Below w.heap.size w w' := by
  have cA := fun W => of_any 97 exS W (by decide)
  have cR := fun W => of_any 114 exS W (by decide)
  have cN : ∀ W : World, Calls Tryz.prog 6 #[.string ⟨(ofL 97 exS).toArray⟩, .agg #[.int .i64 5, .int .i64 2, .float .f64 0]] W fun e w' => ∃ X, e = .returned (.tuple #[.pointer (some ⟨X, 0, none⟩), .int .i64 0, .int .i64 0]) ∧ Below W.heap.size W w' ∧ IxP w' W.heap.size X exR 5 2 0 := by
    intro W
    refine (New_any ⟨(ofL 97 exS).toArray⟩ 5 2 0 W (by decide)).mono ?_
    rintro e w' ⟨v, rfl, hb, _, h⟩
    rw [ex_new] at h ⊢
    obtain ⟨X, rfl, hI, _⟩ := h rfl
    rw [ex_parse] at hI
    exact ⟨X, rfl, hb, hI⟩
  have hRO : RefsOK exR := by
    have h := parse_refs ⟨(ofL 97 exS).toArray⟩ (by rw [ex_parse]; decide)
    rw [ex_parse] at h
    exact h
  have cM : ∀ (W : World) (base X : Nat), Below w.heap.size w W → IxP W base X exR 5 2 0 → Calls Tryz.prog 11 #[.pointer (some ⟨X, 0, none⟩), .string ⟨(ofL 114 exS).toArray⟩] W fun e w' =>
      ∃ g o cp, e = .returned (.tuple #[.slice (some ⟨g, o, none⟩) 1 cp, .int .i64 0, .int .i64 0]) ∧ Below W.heap.size W w' ∧ w'.cell? ⟨g, o, none⟩ = some (.string ⟨#[114]⟩) ∧ w'.cell? ⟨g, o + 1, none⟩ = some (.int .i64 0) ∧ w'.cell? ⟨g, o + 2, none⟩ = some (.int .i64 27) ∧ w'.cell? ⟨g, o + 3, none⟩ = some (.bool false) ∧ w'.cell? ⟨g, o + 4, none⟩ = some (.string ⟨#[97]⟩) ∧ w'.cell? ⟨g, o + 5, none⟩ = some (.int .i64 0) ∧ w'.cell? ⟨g, o + 11, none⟩ = some (.int .i64 27) ∧ w'.cell? ⟨g, o + 12, none⟩ = some (.float .f64 4607182418800017408) := by
    intro W base X hb hI
    refine (Map_any exR base X 5 2 0 _ W (by decide) (by omega) (by omega) (by omega) (by omega) hRO hI (tabOnM htab hb) (hLt.below hb)).mono ?_
    rintro e w' ⟨v, rfl, hbM, _, h⟩
    rw [ex_parse2] at h ⊢
    obtain ⟨rs, hl, hF, hO⟩ := h rfl
    have hl1 : rs.length = 1 := hl
    obtain ⟨r, rfl⟩ : ∃ r, rs = [r] := by
      match rs, hl1 with
      | [r], _ => exact ⟨r, rfl⟩
    have hr := hF 0 (by simp)
    obtain ⟨ql, sc, e0⟩ := ex_find r hr
    subst e0
    obtain ⟨g, o, cp, rfl, _, _, hc⟩ := found0 hO
    exact ⟨g, o, cp, rfl, hbM, hc 0 _ rfl, hc 1 _ rfl, hc 2 _ rfl, hc 3 _ rfl, hc 4 _ rfl, hc 5 _ rfl, hc 11 _ rfl, hc 12 _ rfl⟩
  generalize (⟨(ofL 97 exS).toArray⟩ : ByteArray) = ta at cA cN
  generalize (⟨(ofL 114 exS).toArray⟩ : ByteArray) = tr at cR cM
  have HA := (show Hid _ from cA)
  have HN := (show Hid _ from cN)
  have HR := (show Hid _ from cR)
  have HM := (show Hid _ from cM)
  clear cA cN cR cM hRO htab hLt
  have hord : (FloatKind.f64.format.order 4607182418800017408 4607182418800017408 == some Ordering.eq) = true := by decide +kernel
  go_enter Tryz.func4, Tryz.ntmps4
  go_wp2_with fail
  refine (HA.out w).mono ?_
  rintro e w1 ⟨rfl, hb1⟩
  have HB1 : Hid (Below w.heap.size w w1) := hb1
  clear hb1 HA
  go_wp2_with fail
  refine (HN.out w1).mono ?_
  rintro e w2 ⟨X, rfl, hb2, hI⟩
  have HB2 : Hid (Below w.heap.size w w2) := HB1.out.trans (hb2.mono HB1.out.size)
  have HI : Hid (IxP w2 w1.heap.size X exR 5 2 0) := hI
  clear hb2 HN hI HB1
  go_wp2_with fail
  refine (HR.out w2).mono ?_
  rintro e w3 ⟨rfl, hb3⟩
  have HB3 : Hid (Below w.heap.size w w3) := HB2.out.trans (hb3.mono HB2.out.size)
  have HI3 : Hid (IxP w3 w1.heap.size X exR 5 2 0) := HI.out.kept (fun g hg => hb3.block g hg)
  clear hb3 HR HI HB2
  go_wp2_with fail
  refine (HM.out w3 _ X HB3.out HI3.out).mono ?_
  rintro e w4 ⟨g, o, cp, rfl, hb4, d0, d1, d2, d3, d4, d5, d11, d12⟩
  have HB4 : Hid (Below w.heap.size w w4) := HB3.out.trans (hb4.mono HB3.out.size)
  clear hb4 HM HI3 HB3
  go_wp2_with fail
  rename_i K6 hK6
  have hsub : IntKind.i64.wrap ((27 : Int) - 0) = 27 := by decide
  refine wp_region_X 70 (fun W => W.cell? ⟨g, o, none⟩ = some (.string ⟨#[114]⟩) ∧ W.cell? ⟨g, o + 1, none⟩ = some (.int .i64 0) ∧ W.cell? ⟨g, o + 2, none⟩ = some (.int .i64 27) ∧ W.cell? ⟨g, o + 3, none⟩ = some (.bool false) ∧ W.cell? ⟨g, o + 4, none⟩ = some (.string ⟨#[97]⟩) ∧ W.cell? ⟨g, o + 5, none⟩ = some (.int .i64 0) ∧ W.cell? ⟨g, o + 11, none⟩ = some (.int .i64 27) ∧ W.cell? ⟨g, o + 12, none⟩ = some (.float .f64 4607182418800017408)) (by kernel_rfl) ⟨d0, d1, d2, d3, d4, d5, d11, d12⟩ (fun hH => ?_)
  refine wpZ 0 hH ?_
  refine wpZ 1 hH ?_
  refine wpZ 2 hH ?_
  refine wpZ 3 hH ?_
  refine wpZ 4 hH ?_
  refine wpZ 5 hH ?_
  refine wpZ 6 hH ?_
  refine wpZ 7 hH ?_
  refine wpZ 8 hH ?_
  refine wpZ 9 hH ?_
  refine wpZ 10 hH ?_
  refine wpZ 11 hH ?_
  refine wpZ 12 hH ?_
  refine wpZ 13 hH ?_
  refine wpZ 14 hH ?_
  refine wpZ 15 hH ?_
  refine wpZ 16 hH ?_
  refine wpZ 17 hH ?_
  refine wpZ 18 hH ?_
  refine wpZ 19 hH ?_
  refine wpZ 20 hH ?_
  refine wpZ 21 hH ?_
  refine wpZ 22 hH ?_
  refine wpZ 23 hH ?_
  refine wpZ 24 hH ?_
  refine wpZ 25 hH ?_
  refine wpZ 26 hH ?_
  refine wpZ 27 hH ?_
  refine wpZ 28 hH ?_
  refine wpZ 29 hH ?_
  refine wpZ 30 hH ?_
  refine wpZ 31 hH ?_
  refine wpZ 32 hH ?_
  refine wpZ 33 hH ?_
  refine wpZ 34 hH ?_
  refine wpZ 35 hH ?_
  refine wpZ 36 hH ?_
  refine wpZ 37 hH ?_
  refine wpZ 38 hH ?_
  refine wpZ 39 hH ?_
  refine wpZ 40 hH ?_
  refine wpZ 41 hH ?_
  refine wpZ 42 hH ?_
  refine wpZ 43 hH ?_
  refine wpZ 44 hH ?_
  refine wpZ 45 hH ?_
  refine wpZ 46 hH ?_
  refine wpZ 47 hH ?_
  refine wpZ 48 hH ?_
  refine wpZ 49 hH ?_
  refine wpZ 50 hH ?_
  refine wpZ 51 hH ?_
  refine wpZ 52 hH ?_
  refine wpZ 53 hH ?_
  refine wpZ 54 hH ?_
  refine wpZ 55 hH ?_
  refine wpZ 56 hH ?_
  refine wpZ 57 hH ?_
  refine wpZ 58 hH ?_
  refine wpZ 59 hH ?_
  refine wpZ 60 hH ?_
  refine wpZ 61 hH ?_
  refine wpZ 62 hH ?_
  refine wpZ 63 hH ?_
  refine wpZ 64 hH ?_
  refine wpZ 65 hH ?_
  refine wpZ 66 hH ?_
  refine wpZ 67 hH ?_
  refine wpZ 68 hH ?_
  refine wpZ 69 hH ?_
  refine wpAnyX_done (by kernel_rfl) ?_
  refine hK6 _ _ ?_
  clear hK6 hH
  go_wp2_with fail
  go_ret
  exact ⟨rfl, HB4.out.trans ⟨rfl, rfl, rfl, Nat.le_refl _, fun _ _ => rfl⟩⟩
end Go.Proofs.YtilcmkiihefkkabGreatDoor.Mn
end
section
set_option linter.unusedVariables false
set_option linter.unusedSimpArgs false
set_option maxRecDepth 100000
namespace Go.Proofs.YtilcmkiihefkkabGreatDoor.Mn
/-- what is found is one answer -/
theorem IsC.uniq {G : Int × Bool → List (Int × Int)} {k : Int} {C D : List Cd} (h : IsC G k C) (h' : IsC G k D) : C = D :=
  srt_uniq _ (fun a b h1 h2 => by unfold ltC at h1 h2; omega) C D h.1 h'.1 (fun x => by rw [h.2, h'.2])
theorem FindR.uniq {R : List S2} {k W sc : Nat} {rn rb : ByteArray} {a b : Option FD} (h : FindR R k W sc rn rb a) (h' : FindR R k W sc rn rb b) : a = b := by
  rcases h with ⟨h1, rfl⟩ | ⟨h1, h2, rfl⟩ | ⟨h1, h2, C, hC, rfl⟩ <;> rcases h' with ⟨k1, rfl⟩ | ⟨k1, k2, rfl⟩ | ⟨k1, k2, D, hD, rfl⟩ <;> first | rfl | omega | (rw [hC.uniq hD])
end Go.Proofs.YtilcmkiihefkkabGreatDoor.Mn
end
