import Derived.Deep.CutBlock
import Derived.Deep.DeepCutAuto
import Derived.Test.YtilcmkiihefkkaaGreatDoorJt30
import Derived.Test.YtilcmkiihefkkaaGreatDoorJt47
import Derived.Test.YtilcmkiihefkkaaGreatDoorJt48
section
set_option linter.unusedVariables false
set_option linter.unusedSimpArgs false
set_option maxRecDepth 100000
namespace Go.Proofs.YtilcmkiihefkkaaGreatDoor.Mn
open Go.RowKit Go.Shelf Go.Lib
attribute [local go_sem] run_store_flt
/-- a list of whole numbers that is read -/
def RdI (w : World) (ao : Option Addr) (n : Nat) : Prop := n = 0 ∨ ∃ b off, ao = some ⟨b, off, none⟩ ∧ b < w.heap.size ∧ ∀ j, j < n → ∃ x : Int, w.cell? ⟨b, off + j, none⟩ = some (.int .i64 x) ∧ -9223372036854775808 ≤ x ∧ x ≤ 9223372036854775807
theorem RdI.keep {w w' : World} {ao : Option Addr} {n : Nat} (h : RdI w ao n) (hb : ∀ j, j < w.heap.size → w'.heap[j]? = w.heap[j]?) (hs : w.heap.size ≤ w'.heap.size) : RdI w' ao n := by
  rcases h with h | ⟨b, off, h1, h2, h3⟩
  · exact Or.inl h
  · refine Or.inr ⟨b, off, h1, Nat.lt_of_lt_of_le h2 hs, fun j hj => ?_⟩
    obtain ⟨x, hx, hx2⟩ := h3 j hj
    exact ⟨x, (World.cell?_of_block (hb b h2)).trans hx, hx2⟩
theorem cleaned (s : ByteArray) (M : Nat) : good ⟨(_root_.Go.Proofs.YtilcmkiihefkkaaGreatDoor.cleanL s.data.toList M).toArray⟩ ∧ (⟨(_root_.Go.Proofs.YtilcmkiihefkkaaGreatDoor.cleanL s.data.toList M).toArray⟩ : ByteArray).size ≤ M := by
  constructor
  · refine list_good ?_
    intro c hc
    unfold _root_.Go.Proofs.YtilcmkiihefkkaaGreatDoor.cleanL at hc
    obtain ⟨x, _, rfl⟩ := List.mem_map.1 hc
    exact _root_.Go.Proofs.YtilcmkiihefkkaaGreatDoor.cleanB_good x
  · show (_root_.Go.Proofs.YtilcmkiihefkkaaGreatDoor.cleanL s.data.toList M).toArray.size ≤ M
    rw [List.size_toArray, _root_.Go.Proofs.YtilcmkiihefkkaaGreatDoor.cleanL_length]
    omega
/-- what Map tells of one read -/
def MpT (R : List S2) (k W sc : Nat) (rr : ByteArray) (w : World) (e : Ending) (w' : World) : Prop :=
  ∃ ao n cp, e = .returned (.tuple #[.slice ao n cp, .int .i64 0, .int .i64 0]) ∧ n ≤ 1 ∧ Below w.heap.size w w' ∧
    (0 < n → ∃ (f : FD) (g o : Nat), ao = some ⟨g, o, none⟩ ∧ g < w'.heap.size ∧ FindR R k W sc ⟨#[114]⟩ rr (some f) ∧ ∀ j u, f.cells[j]? = some u → w'.cell? ⟨g, o + j, none⟩ = some u)
theorem map_told (R : List S2) (base X k W sc : Nat) (rr : ByteArray) (w : World) (hg : good rr) (hs : rr.size ≤ 100) (hk1 : 1 ≤ k) (hk2 : k ≤ 12) (hW : 1 ≤ W) (hW2 : W ≤ 20) (hR : RefsOK R) (hI : IxP w base X R k W sc)
    (htab : Lib.TabBelow Tryz.prog w.heap.size w "internal/strconv.uint64pow10" .u64 Lib.pow10Tab) (hLt : LtP w) :
    Calls Tryz.prog 21 #[.pointer (some ⟨X, 0, none⟩), .string ⟨(ofL 114 rr).toArray⟩] w fun e w' => MpT R k W sc rr w e w' := by
  have hp := parse_of 114 rr hg (by omega) (by decide) (by decide)
  have hsz : (⟨(ofL 114 rr).toArray⟩ : ByteArray).size ≤ 140737488351232 := by
    have e1 : (⟨(ofL 114 rr).toArray⟩ : ByteArray).size = (ofL 114 rr).length := by show (ofL 114 rr).toArray.size = _; simp
    have e2 := ofL_len 114 rr
    omega
  refine (Map_any R base X k W sc _ w hsz hk1 hk2 hW hW2 hR hI htab hLt).mono ?_
  rintro e w' ⟨v, rfl, hbM, _, h⟩
  rw [hp] at h ⊢
  obtain ⟨rs, hl, hF, hO⟩ := h rfl
  have hl1 : rs.length = 1 := hl
  obtain ⟨r, rfl⟩ : ∃ r, rs = [r] := by
    match rs, hl1 with
    | [r], _ => exact ⟨r, rfl⟩
  have hr := hF 0 (by simp)
  obtain ⟨ao, cp, rfl⟩ := hO.form
  cases r with
  | none => exact ⟨ao, 0, cp, rfl, by omega, hbM, fun h => absurd h (by omega)⟩
  | some f =>
    obtain ⟨g, o, cp', e0, hgl, _, hc⟩ := found0 hO
    simp only [Value.slice.injEq] at e0
    exact ⟨ao, 1, cp, rfl, Nat.le_refl _, hbM, fun _ => ⟨f, g, o, e0.1, hgl, hr, hc⟩⟩
theorem let_good : ∀ n, n < 5 → good ((⟨#[65, 67, 71, 84, 78]⟩ : ByteArray).extract n (n + 1)) := by
  intro n hn
  have h : ∀ c ∈ ((⟨#[65, 67, 71, 84, 78]⟩ : ByteArray).extract n (n + 1)).data.toList, 0 ≤ numb c := by
    intro c hc
    rw [list_extract] at hc
    have hm := List.mem_of_mem_drop (List.mem_of_mem_take hc)
    revert hm
    have key : ∀ c ∈ ([65, 67, 71, 84, 78] : List UInt8), 0 ≤ numb c := by decide +kernel
    exact key c
  have := list_good h
  rwa [show (⟨((⟨#[65, 67, 71, 84, 78]⟩ : ByteArray).extract n (n + 1)).data.toList.toArray⟩ : ByteArray) = (⟨#[65, 67, 71, 84, 78]⟩ : ByteArray).extract n (n + 1) from ba_eq (by simp)] at this
theorem new_at (T : ByteArray) (R : List S2) (k ww sc : Nat) (hSz : T.size ≤ 140737488351232) (hNew : newR T k ww sc = (0, 0)) (hPar : parseR T = (R, 0, 0)) (W : World) :
    Calls Tryz.prog 18 #[.string T, .agg #[.int .i64 k, .int .i64 ww, .float .f64 sc]] W fun e w' => ∃ X, e = .returned (.tuple #[.pointer (some ⟨X, 0, none⟩), .int .i64 0, .int .i64 0]) ∧ Below W.heap.size W w' ∧ IxP w' W.heap.size X R k ww sc := by
  have h0 := New_any T k ww sc W hSz
  refine h0.mono ?_
  rintro e w' ⟨v, rfl, hb, _, h⟩
  rw [hNew] at h ⊢
  obtain ⟨X, rfl, hI, _⟩ := h rfl
  rw [hPar] at hI
  simp only [Int.toNat_natCast] at hI
  exact ⟨X, rfl, hb, hI⟩
theorem of2_size (a b : ByteArray) (h1 : a.size ≤ 1000) (h2 : b.size ≤ 1000) : (⟨(of2 a b).toArray⟩ : ByteArray).size ≤ 140737488351232 := by
  have e1 : a.data.toList.length = a.size := Array.length_toList
  have e2 : b.data.toList.length = b.size := Array.length_toList
  have e3 : (⟨(of2 a b).toArray⟩ : ByteArray).size = (of2 a b).length := by show (of2 a b).toArray.size = _; simp
  rw [e3]
  simp only [of2, ofL, List.length_cons, List.length_append]
  omega
theorem opt_ok (k W r : Nat) (sc : Nat) (hs : sc = fq (4 * (r : Int))) (h1 : 1 ≤ k) (h2 : k ≤ 12) (h3 : 1 ≤ W) (h4 : W ≤ 20) (h5 : r ≤ 1000) : optB k W sc = true := by
  have p53 : (1048576 : Nat) ≤ 2 ^ 53 := by decide
  have e1 : FloatKind.f64.format.order sc 0 = some (compare (4 * (r : Int)) 0) := by rw [hs, ← fq0]; exact order_fq _ _ (by omega) (by omega)
  have e2 : FloatKind.f64.format.order sc 4652007308841189376 = some (compare (4 * (r : Int)) 4000) := by
    rw [hs, show (4652007308841189376 : Nat) = fq 4000 by decide +kernel]; exact order_fq _ _ (by omega) (by omega)
  unfold optB fge fle
  rw [e1, e2]
  have x1 : geO (some (compare (4 * (r : Int)) 0)) = true := by
    simp only [compare, compareOfLessAndEq]
    rw [if_neg (by omega)]
    split <;> rfl
  have x2 : leO (some (compare (4 * (r : Int)) 4000)) = true := by
    simp only [compare, compareOfLessAndEq]
    by_cases h : 4 * (r : Int) < 4000
    · rw [if_pos h]; rfl
    · rw [if_neg h, if_pos (by omega)]; rfl
  rw [x1, x2]
  simp
  omega
def TrP (w : World) (e : Ending) (w' : World) : Prop := e = .returned (.bool true) ∧ Below w.heap.size w w'
set_option maxHeartbeats 16000000 in
theorem true_any (a b c : ByteArray) (k0 w0 at0 : Int) (sc0 : Nat) (tn : Bool) (ao : Option Addr) (nr cr : Nat) (w : World) (ha : a.size ≤ 140737488351232) (hb : b.size ≤ 140737488351232) (hc : c.size ≤ 140737488351232)
    (hk0 : -9223372036854775808 ≤ k0 ∧ k0 ≤ 9223372036854775807) (hw0 : -9223372036854775808 ≤ w0 ∧ w0 ≤ 9223372036854775807) (hat : -9223372036854775808 ≤ at0 ∧ at0 ≤ 9223372036854775807) (hnr : nr ≤ 9223372036854775807) (hrd : RdI w ao nr)
    (htab : Lib.TabBelow Tryz.prog w.heap.size w "internal/strconv.uint64pow10" .u64 Lib.pow10Tab) (hLt : LtP w) :
    Calls Tryz.prog 6 #[.string a, .string b, .string c, .agg #[.int .i64 k0, .int .i64 w0, .float .f64 sc0], .int .i64 at0, .bool tn, .slice ao nr cr] w (TrP w) := by
  have cA := fun W => _root_.Go.Proofs.YtilcmkiihefkkaaGreatDoor.clean_any a 300 (by omega) W ha
  have cB := fun W => _root_.Go.Proofs.YtilcmkiihefkkaaGreatDoor.clean_any b 300 (by omega) W hb
  have cC := fun W => _root_.Go.Proofs.YtilcmkiihefkkaaGreatDoor.clean_any c 100 (by omega) W hc
  obtain ⟨g1, s1⟩ := cleaned a 300
  obtain ⟨g2, s2⟩ := cleaned b 300
  obtain ⟨g3, s3⟩ := cleaned c 100
  generalize (⟨(_root_.Go.Proofs.YtilcmkiihefkkaaGreatDoor.cleanL a.data.toList 300).toArray⟩ : ByteArray) = ra at cA g1 s1
  generalize (⟨(_root_.Go.Proofs.YtilcmkiihefkkaaGreatDoor.cleanL b.data.toList 300).toArray⟩ : ByteArray) = rb at cB g2 s2
  generalize (⟨(_root_.Go.Proofs.YtilcmkiihefkkaaGreatDoor.cleanL c.data.toList 100).toArray⟩ : ByteArray) = rc at cC g3 s3
  simp only [show ((300 : Nat) : Int) = 300 from rfl, show ((100 : Nat) : Int) = 100 from rfl] at cA cB cC
  have cK := fun W => _root_.Go.Proofs.YtilcmkiihefkkaaGreatDoor.lpick_any k0 10 W hk0 (by omega) (by omega)
  have cW := fun W => _root_.Go.Proofs.YtilcmkiihefkkaaGreatDoor.lpick_any w0 20 W hw0 (by omega) (by omega)
  have cT := fun W => _root_.Go.Proofs.YtilcmkiihefkkaaGreatDoor.lpick_any at0 30 W hat (by omega) (by omega)
  have HcA := (show Hid _ from cA)
  have HcB := (show Hid _ from cB)
  have HcC := (show Hid _ from cC)
  have HcK := (show Hid _ from cK)
  have HcW := (show Hid _ from cW)
  have HcT := (show Hid _ from cT)
  have HTAB : Hid (Lib.TabBelow Tryz.prog w.heap.size w "internal/strconv.uint64pow10" .u64 Lib.pow10Tab) := htab
  have HLT : Hid (LtP w) := hLt
  have HRD : Hid (RdI w ao nr) := hrd
  have G1 : Hid (good ra) := g1
  have G2 : Hid (good rb) := g2
  have G3 : Hid (good rc) := g3
  clear cA cB cC cK cW cT htab hLt hrd g1 g2 g3
  go_enter Tryz.func6, Tryz.ntmps6
  go_wp2_with fail
  refine (finds_any _ (tabOnM HTAB.out ((Below.refl _ w).alloc (Nat.le_refl _) _)) (HLT.out.below ((Below.refl _ w).alloc (Nat.le_refl _) _))).mono ?_
  rintro e w1 ⟨rfl, hb1⟩
  have hbx : Below w.heap.size w (w.alloc (Obj.cells #[.int .i64 k0, .int .i64 w0, .float .f64 sc0] 24)) := (Below.refl _ w).alloc (Nat.le_refl _) _
  have HB1 : Hid (Below w.heap.size w w1) := hbx.trans (hb1.mono (by simp))
  have h1o : w1.heap[w.heap.size]? = some (Obj.cells #[.int .i64 k0, .int .i64 w0, .float .f64 sc0] 24 (0, 0)) := (hb1.block _ (by simp)).trans (heap_alloc_new w _)
  clear hb1 hbx
  go_wp2_with fail
  refine (HcA.out _).mono ?_
  rintro e w' ⟨rfl, hw'⟩
  obtain rfl := hw'.symm
  go_wp2_with fail
  refine (HcB.out _).mono ?_
  rintro e w' ⟨rfl, hw'⟩
  obtain rfl := hw'.symm
  clear HcA HcB hw'
  have hsz1 : w.heap.size < w1.heap.size := lt_of_block h1o
  have q0 := cell_at h1o (i := 0) rfl
  have q1 := cell_at h1o (i := 1) rfl
  have q2 := cell_at h1o (i := 2) rfl
  have qz : ∀ off, w1.frozen? ⟨w.heap.size, off, none⟩ = false := fun off => frozen_of_row _ _ _ _ _ h1o
  go_wp2_with fail
  refine (HcK.out _).mono ?_
  rintro e w' ⟨r1, rfl, hr1, hw'⟩
  obtain rfl := hw'.symm
  go_wp2_with fail
  refine (HcW.out _).mono ?_
  rintro e w' ⟨r2, rfl, hr2, hw'⟩
  obtain rfl := hw'.symm
  go_wp2_with fail
  refine (HcT.out _).mono ?_
  rintro e w' ⟨r3, rfl, hr3, hw'⟩
  obtain rfl := hw'.symm
  clear HcK HcW HcT hw'
  have p50 : (1048576 : Nat) ≤ 2 ^ 50 := by decide
  have f3 : floatOfInt .f64 (r3 : Int) = fq (4 * (r3 : Int)) := ofInt_fq r3 (by omega)
  have HF3 := (show Hid _ from f3)
  obtain ⟨sc, hsc⟩ : ∃ sc, sc = fq (4 * (r3 : Int)) := ⟨_, rfl⟩
  rw [← hsc] at f3
  have HSC : Hid (sc = fq (4 * (r3 : Int))) := hsc
  clear hsc
  obtain ⟨k, hk⟩ : ∃ k : Nat, 3 + (r1 : Int) = k := ⟨3 + r1, by omega⟩
  obtain ⟨ww, hww⟩ : ∃ k : Nat, 1 + (r2 : Int) = k := ⟨1 + r2, by omega⟩
  have hk3 : 3 ≤ k ∧ k ≤ 12 := by omega
  have hw3 : 1 ≤ ww ∧ ww ≤ 20 := by omega
  go_upto_region 6 with fail
  obtain ⟨wS, hwS⟩ : ∃ W : World, W = (((w1.setCell ⟨w.heap.size, 0, none⟩ (.int .i64 k)).setCell ⟨w.heap.size, 1, none⟩ (.int .i64 ww)).setCell ⟨w.heap.size, 2, none⟩ (.float .f64 sc)).alloc (Obj.cells #[.string ra, .string rb] 9) := ⟨_, rfl⟩
  rw [← hwS]
  have U := ((Upd.of_setCell (i := 0) (.int .i64 k) h1o).setCell (i := 1) (.int .i64 ww)).setCell (i := 2) (.float .f64 sc)
  simp only [List.setIfInBounds_toArray, List.set_cons_zero, List.set_cons_succ] at U
  have hsS : wS.heap.size = w1.heap.size + 1 := by rw [hwS]; simp
  have hS0 : wS.heap[w.heap.size]? = some (Obj.cells #[.int .i64 k, .int .i64 ww, .float .f64 sc] 24 (0, 0)) := by rw [hwS, Below.heap_alloc _ _ _ (by rw [U.size]; exact hsz1)]; exact U.here
  have hS1 : wS.heap[w1.heap.size]? = some (Obj.cells #[.string ra, .string rb] 9 (0, 0)) := by
    have := heap_alloc_new (((w1.setCell ⟨w.heap.size, 0, none⟩ (.int .i64 k)).setCell ⟨w.heap.size, 1, none⟩ (.int .i64 ww)).setCell ⟨w.heap.size, 2, none⟩ (.float .f64 sc)) (Obj.cells #[.string ra, .string rb] 9)
    rw [U.size] at this
    rw [hwS]; exact this
  have hbS : Below w.heap.size w wS := by
    rw [hwS]
    exact (HB1.out.trans (U.below (Nat.le_refl _))).alloc (by rw [U.size]; exact HB1.out.size) _
  have HBS : Hid (Below w.heap.size w wS) := hbS
  have HS0 := (show Hid _ from hS0)
  have HS1 := (show Hid _ from hS1)
  have HSZ : Hid (wS.heap.size = w1.heap.size + 1) := hsS
  have HZ1 : Hid (w.heap.size < w1.heap.size) := hsz1
  clear hwS U hbS hS0 hS1 q0 q1 q2 qz h1o HB1 hsS hsz1 hk hww hr1 hr2 f3
  obtain ⟨TA, hTA⟩ : ∃ T : ByteArray, T = ⟨(ofL 97 ra).toArray⟩ := ⟨_, rfl⟩
  obtain ⟨TB, hTB⟩ : ∃ T : ByteArray, T = ⟨(ofL 98 rb).toArray⟩ := ⟨_, rfl⟩
  have HR : Hid (∃ R, R = [(⟨⟨#[97]⟩, ra⟩ : S2), ⟨⟨#[98]⟩, rb⟩]) := ⟨_, rfl⟩
  have hText : TA ++ ⟨#[10]⟩ ++ TB = ⟨(of2 ra rb).toArray⟩ := by
    rw [hTA, hTB]
    apply ByteArray.ext
    simp [of2, ofL]
  have hPar : parseR (TA ++ ⟨#[10]⟩ ++ TB) = ([⟨⟨#[97]⟩, ra⟩, ⟨⟨#[98]⟩, rb⟩], 0, 0) := by rw [hText]; exact parse_of2 ra rb G1.out G2.out (by omega) (by omega)
  have hOpt : optB k ww sc = true := opt_ok k ww r3 sc HSC.out (by omega) (by omega) (by omega) (by omega) (by omega)
  have hSum : sumN [(⟨⟨#[97]⟩, ra⟩ : S2), ⟨⟨#[98]⟩, rb⟩] 2 ≤ 4000 := by
    show 0 + ra.size + rb.size ≤ 4000
    omega
  have hNew : newR (TA ++ ⟨#[10]⟩ ++ TB) k ww sc = (0, 0) := by
    unfold newR
    rw [if_pos hOpt, hPar, if_pos rfl]
    have : refsE [(⟨⟨#[97]⟩, ra⟩ : S2), ⟨⟨#[98]⟩, rb⟩] = 0 := by
      unfold refsE
      rw [if_neg (by have : ([(⟨⟨#[97]⟩, ra⟩ : S2), ⟨⟨#[98]⟩, rb⟩] : List S2).length = 2 := rfl; rw [this]; omega), if_neg (by simp)]
    rw [this]
  have hSz : (TA ++ ⟨#[10]⟩ ++ TB).size ≤ 140737488351232 := by rw [hText]; exact of2_size ra rb (by omega) (by omega)
  have HN : Hid (∀ W : World, Calls Tryz.prog 18 #[.string (TA ++ ⟨#[10]⟩ ++ TB), .agg #[.int .i64 k, .int .i64 ww, .float .f64 sc]] W fun e w' => ∃ X, e = .returned (.tuple #[.pointer (some ⟨X, 0, none⟩), .int .i64 0, .int .i64 0]) ∧ Below W.heap.size W w' ∧ IxP w' W.heap.size X [⟨⟨#[97]⟩, ra⟩, ⟨⟨#[98]⟩, rb⟩] k ww sc) := by
    exact fun W => new_at _ _ k ww sc hSz hNew hPar W
  have HRO : Hid (RefsOK [⟨⟨#[97]⟩, ra⟩, ⟨⟨#[98]⟩, rb⟩]) := by
    have h := parse_refs (TA ++ ⟨#[10]⟩ ++ TB) (by rw [hPar]; exact hSum)
    rw [hPar] at h
    exact h
  have HOA : Hid (∀ W : World, Calls Tryz.prog 19 #[.string ⟨#[97]⟩, .string ra] W fun e w' => e = .returned (.string TA) ∧ Below W.heap.size W w') := by
    intro W; rw [hTA]; exact of_any 97 ra W (by omega)
  have HOB : Hid (∀ W : World, Calls Tryz.prog 19 #[.string ⟨#[98]⟩, .string rb] W fun e w' => e = .returned (.string TB) ∧ Below W.heap.size W w') := by
    intro W; rw [hTB]; exact of_any 98 rb W (by omega)
  have hTAs : TA.size ≤ 1000 := by
    rw [hTA]
    have e1 : (⟨(ofL 97 ra).toArray⟩ : ByteArray).size = (ofL 97 ra).length := by show (ofL 97 ra).toArray.size = _; simp
    have e2 := ofL_len 97 ra
    omega
  have hTBs : TB.size ≤ 1000 := by
    rw [hTB]
    have e1 : (⟨(ofL 98 rb).toArray⟩ : ByteArray).size = (ofL 98 rb).length := by show (ofL 98 rb).toArray.size = _; simp
    have e2 := ofL_len 98 rb
    omega
  have t6 : ¬ 9223372036854775807 < TA.size + 1 := by omega
  have t11 : ¬ 9223372036854775807 < TA.size + 1 + TB.size := by omega
  clear hText hPar hOpt hSum hNew hTA hTB HR hTAs hTBs hSz
  go_cut [17, 18] (fun xv ev wc => ∃ X base, xv = .pointer (some ⟨X, 0, none⟩) ∧ ev = .int .i64 0 ∧ Below wS.heap.size wS wc ∧ IxP wc base X [⟨⟨#[97]⟩, ra⟩, ⟨⟨#[98]⟩, rb⟩] k ww sc)
  case first =>
    have gS : ∀ W1 : World, (∀ j, j < wS.heap.size → W1.heap[j]? = wS.heap[j]?) → W1.cell? ⟨w1.heap.size, 0, none⟩ = some (.string ra) ∧ W1.cell? ⟨w1.heap.size, 1, none⟩ = some (.string rb) ∧ W1.cell? ⟨w.heap.size, 0, none⟩ = some (.int .i64 k) ∧ W1.cell? ⟨w.heap.size, 1, none⟩ = some (.int .i64 ww) ∧ W1.cell? ⟨w.heap.size, 2, none⟩ = some (.float .f64 sc) := by
      intro W1 hW1
      have e1 := (hW1 w1.heap.size (by have := HSZ.out; omega)).trans HS1.out
      have e2 := (hW1 w.heap.size (by have := HSZ.out; have := HZ1.out; omega)).trans HS0.out
      exact ⟨cell_at e1 rfl, cell_at e1 rfl, cell_at e2 rfl, cell_at e2 rfl, cell_at e2 rfl⟩
    refine wp_region_X 21 (fun W1 => W1.cell? ⟨w1.heap.size, 0, none⟩ = some (.string ra) ∧ W1.cell? ⟨w1.heap.size, 1, none⟩ = some (.string rb) ∧ W1.cell? ⟨w.heap.size, 0, none⟩ = some (.int .i64 k) ∧ W1.cell? ⟨w.heap.size, 1, none⟩ = some (.int .i64 ww) ∧ W1.cell? ⟨w.heap.size, 2, none⟩ = some (.float .f64 sc)) (by kernel_rfl) (gS wS.drew (fun _ _ => rfl)) (fun hH => ?_)
    have hc : Below wS.heap.size wS wS.drew := ⟨rfl, rfl, rfl, Nat.le_refl _, fun _ _ => rfl⟩
    obtain ⟨W0, hW0⟩ : ∃ W : World, W = wS.drew := ⟨_, rfl⟩
    rw [← hW0] at hH hc ⊢
    clear hW0
    refine wpZ 0 hH ?_
    refine wpZ 1 hH ?_
    refine wpZ 2 hH ?_
    refine wpZ 7 hH ?_
    refine wpZ 8 hH ?_
    refine wpZ 9 hH ?_
    refine wpZ 12 hH ?_
    refine wpAnyX_two (i := 3) (j := 4) (by kernel_rfl) rfl rfl (by kernel_rfl) (by kernel_rfl) (fun K hK => ?_) (fun K hK => ?_)
    · go_simp
      go_at_call 19
      refine (HOA.out _).mono ?_
      rintro e V1 ⟨rfl, hb1⟩
      have hc : Below wS.heap.size wS V1 := hc.trans (hb1.mono hc.size)
      have hH := gS V1 hc.block
      refine hK.out _ _ hH ?_
      clear hK K hb1
      try simp only [Act.put, zA0, zZ0, zS0]
      refine wpAnyX_two (i := 4) (j := 10) (by kernel_rfl) rfl rfl (by kernel_rfl) (by kernel_rfl) (fun K hK => ?_) (fun K hK => ?_)
      · go_simp
        obtain ⟨V2, hV2⟩ : ∃ W : World, W = V1.alloc (Obj.cells #[.int .u8 10] 5) := ⟨_, rfl⟩
        rw [← hV2]
        obtain ⟨bq, hbq⟩ : ∃ b, b = V1.heap.size := ⟨_, rfl⟩
        rw [← hbq]
        have hq : V2.cell? ⟨bq, 0, none⟩ = some (.int .u8 10) := by rw [hV2, hbq]; exact cell_at (heap_alloc_new _ _) rfl
        have hc : Below wS.heap.size wS V2 := by rw [hV2]; exact hc.alloc hc.size _
        have hH := gS V2 hc.block
        refine hK.out _ _ hH ?_
        clear hK K hV2 hbq
        try simp only [Act.put, zA0, zZ0, zS0]
        refine wpAnyX_two (i := 5) (j := 10) (by kernel_rfl) rfl rfl (by kernel_rfl) (by kernel_rfl) (fun K hK => ?_) (fun K hK => ?_)
        · have hcv := _root_.Go.Proofs.YtilcmkiihefkkaaGreatDoor.conv_one V2 bq 10 hq
          go_simp
          refine hK.out _ _ hH ?_
          clear hK K hcv
          try simp only [Act.put, zA0, zZ0, zS0]
          refine wpZ 6 hH ?_
          refine wpAnyX_step (i := 10) (by kernel_rfl) rfl (by kernel_rfl) (fun K hK => ?_)
          go_simp
          go_at_call 19
          refine (HOB.out _).mono ?_
          rintro e V4 ⟨rfl, hb4⟩
          have hc : Below wS.heap.size wS V4 := hc.trans (hb4.mono hc.size)
          have hq : V4.cell? ⟨bq, 0, none⟩ = some (.int .u8 10) := (World.cell?_of_block (hb4.block _ (block_lt_of_cell hq))).trans hq
          have hH := gS V4 hc.block
          refine hK.out _ _ hH ?_
          clear hK K hb4
          try simp only [Act.put, zA0, zZ0, zS0]
          refine wpZ 11 hH ?_
          refine wpAnyX_step (i := 13) (by kernel_rfl) rfl (by kernel_rfl) (fun K hK => ?_)
          go_simp
          go_at_call 18
          refine (HN.out _).mono ?_
          rintro e VN ⟨X, rfl, hbN, hI⟩
          have hc : Below wS.heap.size wS VN := hc.trans (hbN.mono hc.size)
          have hH := gS VN hc.block
          refine hK.out _ _ hH ?_
          clear hK K hbN
          try simp only [Act.put, zA0, zZ0, zS0]
          refine wpZ 14 hH ?_
          refine wpZ 15 hH ?_
          refine wpZ 16 hH ?_
          refine wpZ 17 hH ?_
          refine wpZ 18 hH ?_
          refine wpZ 19 hH ?_
          refine wpZ 20 hH ?_
          refine wpAnyX_done (by kernel_rfl) ?_
          go_wp2_with fail
          go_meet
          case rel => exact ⟨X, _, rfl, rfl, hc, hI⟩
        · go_simp
          go_at_call 19
          refine (HOB.out _).mono ?_
          rintro e V5 ⟨rfl, hb5⟩
          have hc : Below wS.heap.size wS V5 := hc.trans (hb5.mono hc.size)
          have hq : V5.cell? ⟨bq, 0, none⟩ = some (.int .u8 10) := (World.cell?_of_block (hb5.block _ (block_lt_of_cell hq))).trans hq
          have hH := gS V5 hc.block
          refine hK.out _ _ hH ?_
          clear hK K hb5
          try simp only [Act.put, zA0, zZ0, zS0]
          refine wpAnyX_step (i := 5) (by kernel_rfl) rfl (by kernel_rfl) (fun K hK => ?_)
          have hcv := _root_.Go.Proofs.YtilcmkiihefkkaaGreatDoor.conv_one V5 bq 10 hq
          go_simp
          refine hK.out _ _ hH ?_
          clear hK K hcv
          try simp only [Act.put, zA0, zZ0, zS0]
          refine wpZ 6 hH ?_
          refine wpZ 11 hH ?_
          refine wpAnyX_step (i := 13) (by kernel_rfl) rfl (by kernel_rfl) (fun K hK => ?_)
          go_simp
          go_at_call 18
          refine (HN.out _).mono ?_
          rintro e VN ⟨X, rfl, hbN, hI⟩
          have hc : Below wS.heap.size wS VN := hc.trans (hbN.mono hc.size)
          have hH := gS VN hc.block
          refine hK.out _ _ hH ?_
          clear hK K hbN
          try simp only [Act.put, zA0, zZ0, zS0]
          refine wpZ 14 hH ?_
          refine wpZ 15 hH ?_
          refine wpZ 16 hH ?_
          refine wpZ 17 hH ?_
          refine wpZ 18 hH ?_
          refine wpZ 19 hH ?_
          refine wpZ 20 hH ?_
          refine wpAnyX_done (by kernel_rfl) ?_
          go_wp2_with fail
          go_meet
          case rel => exact ⟨X, _, rfl, rfl, hc, hI⟩
      · go_simp
        go_at_call 19
        refine (HOB.out _).mono ?_
        rintro e V7 ⟨rfl, hb7⟩
        have hc : Below wS.heap.size wS V7 := hc.trans (hb7.mono hc.size)
        have hH := gS V7 hc.block
        refine hK.out _ _ hH ?_
        clear hK K hb7
        try simp only [Act.put, zA0, zZ0, zS0]
        refine wpAnyX_step (i := 4) (by kernel_rfl) rfl (by kernel_rfl) (fun K hK => ?_)
        go_simp
        obtain ⟨V8, hV8⟩ : ∃ W : World, W = V7.alloc (Obj.cells #[.int .u8 10] 5) := ⟨_, rfl⟩
        rw [← hV8]
        obtain ⟨bq, hbq⟩ : ∃ b, b = V7.heap.size := ⟨_, rfl⟩
        rw [← hbq]
        have hq : V8.cell? ⟨bq, 0, none⟩ = some (.int .u8 10) := by rw [hV8, hbq]; exact cell_at (heap_alloc_new _ _) rfl
        have hc : Below wS.heap.size wS V8 := by rw [hV8]; exact hc.alloc hc.size _
        have hH := gS V8 hc.block
        refine hK.out _ _ hH ?_
        clear hK K hV8 hbq
        try simp only [Act.put, zA0, zZ0, zS0]
        refine wpAnyX_step (i := 5) (by kernel_rfl) rfl (by kernel_rfl) (fun K hK => ?_)
        have hcv := _root_.Go.Proofs.YtilcmkiihefkkaaGreatDoor.conv_one V8 bq 10 hq
        go_simp
        refine hK.out _ _ hH ?_
        clear hK K hcv
        try simp only [Act.put, zA0, zZ0, zS0]
        refine wpZ 6 hH ?_
        refine wpZ 11 hH ?_
        refine wpAnyX_step (i := 13) (by kernel_rfl) rfl (by kernel_rfl) (fun K hK => ?_)
        go_simp
        go_at_call 18
        refine (HN.out _).mono ?_
        rintro e VN ⟨X, rfl, hbN, hI⟩
        have hc : Below wS.heap.size wS VN := hc.trans (hbN.mono hc.size)
        have hH := gS VN hc.block
        refine hK.out _ _ hH ?_
        clear hK K hbN
        try simp only [Act.put, zA0, zZ0, zS0]
        refine wpZ 14 hH ?_
        refine wpZ 15 hH ?_
        refine wpZ 16 hH ?_
        refine wpZ 17 hH ?_
        refine wpZ 18 hH ?_
        refine wpZ 19 hH ?_
        refine wpZ 20 hH ?_
        refine wpAnyX_done (by kernel_rfl) ?_
        go_wp2_with fail
        go_meet
        case rel => exact ⟨X, _, rfl, rfl, hc, hI⟩
    · go_simp
      obtain ⟨V10, hV10⟩ : ∃ W : World, W = W0.alloc (Obj.cells #[.int .u8 10] 5) := ⟨_, rfl⟩
      rw [← hV10]
      obtain ⟨bq, hbq⟩ : ∃ b, b = W0.heap.size := ⟨_, rfl⟩
      rw [← hbq]
      have hq : V10.cell? ⟨bq, 0, none⟩ = some (.int .u8 10) := by rw [hV10, hbq]; exact cell_at (heap_alloc_new _ _) rfl
      have hc : Below wS.heap.size wS V10 := by rw [hV10]; exact hc.alloc hc.size _
      have hH := gS V10 hc.block
      refine hK.out _ _ hH ?_
      clear hK K hV10 hbq
      try simp only [Act.put, zA0, zZ0, zS0]
      refine wpAnyX_two (i := 3) (j := 5) (by kernel_rfl) rfl rfl (by kernel_rfl) (by kernel_rfl) (fun K hK => ?_) (fun K hK => ?_)
      · go_simp
        go_at_call 19
        refine (HOA.out _).mono ?_
        rintro e V11 ⟨rfl, hb11⟩
        have hc : Below wS.heap.size wS V11 := hc.trans (hb11.mono hc.size)
        have hq : V11.cell? ⟨bq, 0, none⟩ = some (.int .u8 10) := (World.cell?_of_block (hb11.block _ (block_lt_of_cell hq))).trans hq
        have hH := gS V11 hc.block
        refine hK.out _ _ hH ?_
        clear hK K hb11
        try simp only [Act.put, zA0, zZ0, zS0]
        refine wpAnyX_two (i := 5) (j := 10) (by kernel_rfl) rfl rfl (by kernel_rfl) (by kernel_rfl) (fun K hK => ?_) (fun K hK => ?_)
        · have hcv := _root_.Go.Proofs.YtilcmkiihefkkaaGreatDoor.conv_one V11 bq 10 hq
          go_simp
          refine hK.out _ _ hH ?_
          clear hK K hcv
          try simp only [Act.put, zA0, zZ0, zS0]
          refine wpZ 6 hH ?_
          refine wpAnyX_step (i := 10) (by kernel_rfl) rfl (by kernel_rfl) (fun K hK => ?_)
          go_simp
          go_at_call 19
          refine (HOB.out _).mono ?_
          rintro e V13 ⟨rfl, hb13⟩
          have hc : Below wS.heap.size wS V13 := hc.trans (hb13.mono hc.size)
          have hq : V13.cell? ⟨bq, 0, none⟩ = some (.int .u8 10) := (World.cell?_of_block (hb13.block _ (block_lt_of_cell hq))).trans hq
          have hH := gS V13 hc.block
          refine hK.out _ _ hH ?_
          clear hK K hb13
          try simp only [Act.put, zA0, zZ0, zS0]
          refine wpZ 11 hH ?_
          refine wpAnyX_step (i := 13) (by kernel_rfl) rfl (by kernel_rfl) (fun K hK => ?_)
          go_simp
          go_at_call 18
          refine (HN.out _).mono ?_
          rintro e VN ⟨X, rfl, hbN, hI⟩
          have hc : Below wS.heap.size wS VN := hc.trans (hbN.mono hc.size)
          have hH := gS VN hc.block
          refine hK.out _ _ hH ?_
          clear hK K hbN
          try simp only [Act.put, zA0, zZ0, zS0]
          refine wpZ 14 hH ?_
          refine wpZ 15 hH ?_
          refine wpZ 16 hH ?_
          refine wpZ 17 hH ?_
          refine wpZ 18 hH ?_
          refine wpZ 19 hH ?_
          refine wpZ 20 hH ?_
          refine wpAnyX_done (by kernel_rfl) ?_
          go_wp2_with fail
          go_meet
          case rel => exact ⟨X, _, rfl, rfl, hc, hI⟩
        · go_simp
          go_at_call 19
          refine (HOB.out _).mono ?_
          rintro e V14 ⟨rfl, hb14⟩
          have hc : Below wS.heap.size wS V14 := hc.trans (hb14.mono hc.size)
          have hq : V14.cell? ⟨bq, 0, none⟩ = some (.int .u8 10) := (World.cell?_of_block (hb14.block _ (block_lt_of_cell hq))).trans hq
          have hH := gS V14 hc.block
          refine hK.out _ _ hH ?_
          clear hK K hb14
          try simp only [Act.put, zA0, zZ0, zS0]
          refine wpAnyX_step (i := 5) (by kernel_rfl) rfl (by kernel_rfl) (fun K hK => ?_)
          have hcv := _root_.Go.Proofs.YtilcmkiihefkkaaGreatDoor.conv_one V14 bq 10 hq
          go_simp
          refine hK.out _ _ hH ?_
          clear hK K hcv
          try simp only [Act.put, zA0, zZ0, zS0]
          refine wpZ 6 hH ?_
          refine wpZ 11 hH ?_
          refine wpAnyX_step (i := 13) (by kernel_rfl) rfl (by kernel_rfl) (fun K hK => ?_)
          go_simp
          go_at_call 18
          refine (HN.out _).mono ?_
          rintro e VN ⟨X, rfl, hbN, hI⟩
          have hc : Below wS.heap.size wS VN := hc.trans (hbN.mono hc.size)
          have hH := gS VN hc.block
          refine hK.out _ _ hH ?_
          clear hK K hbN
          try simp only [Act.put, zA0, zZ0, zS0]
          refine wpZ 14 hH ?_
          refine wpZ 15 hH ?_
          refine wpZ 16 hH ?_
          refine wpZ 17 hH ?_
          refine wpZ 18 hH ?_
          refine wpZ 19 hH ?_
          refine wpZ 20 hH ?_
          refine wpAnyX_done (by kernel_rfl) ?_
          go_wp2_with fail
          go_meet
          case rel => exact ⟨X, _, rfl, rfl, hc, hI⟩
      · have hcv := _root_.Go.Proofs.YtilcmkiihefkkaaGreatDoor.conv_one V10 bq 10 hq
        go_simp
        refine hK.out _ _ hH ?_
        clear hK K hcv
        try simp only [Act.put, zA0, zZ0, zS0]
        refine wpAnyX_step (i := 3) (by kernel_rfl) rfl (by kernel_rfl) (fun K hK => ?_)
        go_simp
        go_at_call 19
        refine (HOA.out _).mono ?_
        rintro e V17 ⟨rfl, hb17⟩
        have hc : Below wS.heap.size wS V17 := hc.trans (hb17.mono hc.size)
        have hq : V17.cell? ⟨bq, 0, none⟩ = some (.int .u8 10) := (World.cell?_of_block (hb17.block _ (block_lt_of_cell hq))).trans hq
        have hH := gS V17 hc.block
        refine hK.out _ _ hH ?_
        clear hK K hb17
        try simp only [Act.put, zA0, zZ0, zS0]
        refine wpZ 6 hH ?_
        refine wpAnyX_step (i := 10) (by kernel_rfl) rfl (by kernel_rfl) (fun K hK => ?_)
        go_simp
        go_at_call 19
        refine (HOB.out _).mono ?_
        rintro e V18 ⟨rfl, hb18⟩
        have hc : Below wS.heap.size wS V18 := hc.trans (hb18.mono hc.size)
        have hq : V18.cell? ⟨bq, 0, none⟩ = some (.int .u8 10) := (World.cell?_of_block (hb18.block _ (block_lt_of_cell hq))).trans hq
        have hH := gS V18 hc.block
        refine hK.out _ _ hH ?_
        clear hK K hb18
        try simp only [Act.put, zA0, zZ0, zS0]
        refine wpZ 11 hH ?_
        refine wpAnyX_step (i := 13) (by kernel_rfl) rfl (by kernel_rfl) (fun K hK => ?_)
        go_simp
        go_at_call 18
        refine (HN.out _).mono ?_
        rintro e VN ⟨X, rfl, hbN, hI⟩
        have hc : Below wS.heap.size wS VN := hc.trans (hbN.mono hc.size)
        have hH := gS VN hc.block
        refine hK.out _ _ hH ?_
        clear hK K hbN
        try simp only [Act.put, zA0, zZ0, zS0]
        refine wpZ 14 hH ?_
        refine wpZ 15 hH ?_
        refine wpZ 16 hH ?_
        refine wpZ 17 hH ?_
        refine wpZ 18 hH ?_
        refine wpZ 19 hH ?_
        refine wpZ 20 hH ?_
        refine wpAnyX_done (by kernel_rfl) ?_
        go_wp2_with fail
        go_meet
        case rel => exact ⟨X, _, rfl, rfl, hc, hI⟩
  case rest =>
    obtain ⟨X, base, rfl, rfl, hbC, hI⟩ := hcut
    obtain ⟨wC, hwC⟩ : ∃ W : World, W = wc := ⟨_, rfl⟩
    subst hwC
    have HC : Hid (Below w.heap.size w wC) := HBS.out.trans (hbC.mono HBS.out.size)
    have HCS : Hid (Below wS.heap.size wS wC) := hbC
    have HI : Hid (IxP wC base X [⟨⟨#[97]⟩, ra⟩, ⟨⟨#[98]⟩, rb⟩] k ww sc) := hI
    have hC1 : wC.heap[w1.heap.size]? = some (Obj.cells #[.string ra, .string rb] 9 (0, 0)) := (hbC.block _ (by have := HSZ.out; omega)).trans HS1.out
    have y0 := cell_at hC1 (i := 0) rfl
    have y1 := cell_at hC1 (i := 1) rfl
    have HC1 := (show Hid _ from hC1)
    clear hbC hI HN HOA HOB hC1 t6 t11
    go_wp2_with fail
    refine (HcC.out _).mono ?_
    rintro e w' ⟨rfl, hw'⟩
    obtain rfl := hw'.symm
    clear HcC hw'
    go_upto_region 10 with fail
    go_cut [89] (fun bv wx => ∃ bb : Bool, bv = .bool bb ∧ Hid (bb = true → 0 < ra.size ∧ 0 < nr) ∧ wx = wC)
    case first =>
      by_cases hh : 0 < ra.size
      · by_cases hn0 : 0 < nr
        · have hhI : (0 : Int) < ra.size := by omega
          have hnI : (0 : Int) < nr := by omega
          have HH : Hid (0 < ra.size ∧ 0 < nr) := ⟨hh, hn0⟩
          go_wp2_with fail
          go_meet
          case rel => exact ⟨true, rfl, fun _ => HH.out, rfl⟩
        · have hhI : (0 : Int) < ra.size := by omega
          have hnI : ¬ (0 : Int) < nr := by omega
          go_wp2_with fail
          go_meet
          case rel => exact ⟨false, rfl, (fun h => by cases h), rfl⟩
      · have hhI : ¬ (0 : Int) < ra.size := by omega
        go_wp2_with fail
        go_meet
        case rel => exact ⟨false, rfl, (fun h => by cases h), rfl⟩
    case rest =>
      obtain ⟨bb, rfl, HBB, hwx⟩ := hcut
      have hwy := hwx.symm
      subst hwy
      clear hwx
      go_upto_if 89 with fail
      go_cut [20] (fun rv wx => ∃ rd, rv = .string rd ∧ good rd ∧ rd.size ≤ 100 ∧ Below wC.heap.size wC wx)
      case first =>
        cases bb with
        | false =>
          go_wp2_with fail
          go_meet
          case rel => exact ⟨rc, rfl, G3.out, s3, Below.refl _ _⟩
        | true =>
          obtain ⟨hra0, hnr0⟩ := HBB.out rfl
          have hraI : (0 : Int) < ra.size := by omega
          have cP1 := fun W => _root_.Go.Proofs.YtilcmkiihefkkaaGreatDoor.lpick_any at0 ra.size W hat (by omega) (by omega)
          obtain ⟨gb, go0, rfl, hgb, hch⟩ : ∃ gb go0, ao = some ⟨gb, go0, none⟩ ∧ gb < wC.heap.size ∧ ∀ j, j < nr → ∃ x : Int, wC.cell? ⟨gb, go0 + j, none⟩ = some (.int .i64 x) ∧ -9223372036854775808 ≤ x ∧ x ≤ 9223372036854775807 := by
            have h := HRD.out.keep (w' := wC) (fun j hj => HC.out.block j hj) HC.out.size
            rcases h with h | ⟨b, off, h1, h2, h3⟩
            · omega
            · exact ⟨b, off, h1, h2, h3⟩
          have HCH := (show Hid _ from hch)
          obtain ⟨x0, hx0, hx0b⟩ := hch 0 hnr0
          rw [Nat.add_zero] at hx0
          clear hch
          go_wp2_with fail
          refine (cP1 _).mono ?_
          rintro e w' ⟨r5, rfl, hr5, hw'⟩
          obtain rfl := hw'.symm
          clear cP1 hw'
          have i1 : (r5 : Int) ≤ ra.size := by omega
          have hr5n : r5 ≤ ra.size := by omega
          go_upto_if 103 with fail
          go_cut [20] (fun rv wx => ∃ rd, rv = .string rd ∧ good rd ∧ 0 < rd.size ∧ rd.size ≤ 100 ∧ wx = wC)
          case first =>
            have hse : (ra.extract r5 ra.size).size = ra.size - r5 := by rw [ByteArray.size_extract]; omega
            by_cases hbig : 100 < ra.size - r5
            · have hbI : (100 : Int) < ((ra.size - r5 : Nat) : Int) := by omega
              have hbN : (100 : Int) ≤ ((ra.size - r5 : Nat) : Int) := by omega
              have hbM : 100 ≤ ra.size - r5 := by omega
              have HSE : Hid ((ra.extract r5 ra.size).size = ra.size - r5) := hse
              go_wp2_with fail
              go_meet
              case rel => exact ⟨_, rfl, good_ext (good_ext G1.out _ _) _ _, by rw [ByteArray.size_extract, HSE.out]; omega, by rw [ByteArray.size_extract]; omega, rfl⟩
            · have hbI : ¬ (100 : Int) < ((ra.size - r5 : Nat) : Int) := by omega
              have HSE : Hid ((ra.extract r5 ra.size).size = ra.size - r5) := hse
              go_wp2_with fail
              go_meet
              case rel => exact ⟨_, rfl, good_ext G1.out _ _, by rw [HSE.out]; omega, by rw [HSE.out]; omega, rfl⟩
          case rest =>
            obtain ⟨rd0, rfl, hg0, hp0, hs0, hwx⟩ := hcut
            have hwy := hwx.symm
            subst hwy
            clear hwx
            go_wp2_with fail
            go_loopw [20, 22] (fun rv iv wx => ∃ (i : Nat) (rd : ByteArray), iv = .int .i64 i ∧ 1 ≤ i ∧ i ≤ 5 ∧ rv = .string rd ∧ good rd ∧ 0 < rd.size ∧ rd.size ≤ 100 ∧ ∃ q, wx = wC.drewN q) (fun _ iv _ => 5 - (RowKit.intOf iv).toNat)
            case atStart => exact ⟨1, rd0, rfl, Nat.le_refl _, by omega, rfl, hg0, hp0, hs0, 0, rfl⟩
            case round =>
              obtain ⟨i, rd, rfl, hi1, hi5, rfl, hgd, hpd, hsd, q, rfl⟩ := hrel
              have HGD : Hid (good rd) := hgd
              clear hgd
              by_cases hin : i < nr
              · have hinI : (i : Int) < nr := by omega
                by_cases hi5' : i < 5
                · have hi5I : (i : Int) < 5 := by omega
                  obtain ⟨xi, hxi, hxib⟩ := HCH.out i hin
                  have hxi' : (wC.drewN q).cell? ⟨gb, go0 + i, none⟩ = some (.int .i64 xi) := hxi
                  have hx0' : (wC.drewN q).cell? ⟨gb, go0, none⟩ = some (.int .i64 x0) := hx0
                  have hnr0I : (0 : Int) < nr := by omega
                  have cP2 := fun W => _root_.Go.Proofs.YtilcmkiihefkkaaGreatDoor.lpick_any xi rd.size W hxib (by omega) (by omega)
                  have cP3 := fun W => _root_.Go.Proofs.YtilcmkiihefkkaaGreatDoor.lpick_any x0 5 W hx0b (by omega) (by omega)
                  clear hxi
                  go_wp2_with fail
                  refine (cP2 _).mono ?_
                  rintro e w' ⟨r6, rfl, hr6, hw'⟩
                  obtain rfl := hw'.symm
                  clear cP2 hw'
                  go_wp2_with fail
                  refine (cP3 _).mono ?_
                  rintro e w' ⟨r7, rfl, hr7, hw'⟩
                  obtain rfl := hw'.symm
                  clear cP3 hw' hxi' hx0'
                  have e1 : (r6 : Int) ≤ rd.size := by omega
                  have e1n : r6 ≤ rd.size := by omega
                  have e2 : IntKind.i64.wrap ((r7 : Int) + 1) = ((r7 + 1 : Nat) : Int) := by rw [IntKind.wrap_i64]; omega
                  have e3 : IntKind.i64.wrap ((r6 : Int) + 1) = ((r6 + 1 : Nat) : Int) := by rw [IntKind.wrap_i64]; omega
                  have e4 : (r7 : Int) ≤ ((r7 + 1 : Nat) : Int) := by omega
                  have e4n : r7 ≤ r7 + 1 := by omega
                  have e5 : ((r7 + 1 : Nat) : Int) ≤ 5 := by omega
                  have e5n : r7 + 1 ≤ 5 := by omega
                  have e6 : ((r6 + 1 : Nat) : Int) ≤ rd.size := by omega
                  have e6n : r6 + 1 ≤ rd.size := by omega
                  have e7 : (0 : Int) ≤ (r7 : Int) + 1 := by omega
                  have e8 : (r7 : Int) + 1 ≤ 5 := by omega
                  have e9 : (r7 : Int) ≤ (r7 : Int) + 1 := by omega
                  have e10 : (0 : Int) ≤ (r6 : Int) + 1 := by omega
                  have e11 : (r6 : Int) + 1 ≤ rd.size := by omega
                  have e12 : ¬ 9223372036854775807 < r6 + 1 := by omega
                  have e13 : ¬ 9223372036854775807 < r6 + 1 + (rd.size - (r6 + 1)) := by omega
                  have e14 : ¬ 9223372036854775807 < rd.size := by omega
                  have hls : (⟨#[65, 67, 71, 84, 78]⟩ : ByteArray).size = 5 := rfl
                  go_wp2_with fail
                  rename_i K20 hK20
                  refine wp_region_X 14 (fun _ => True) (by kernel_rfl) trivial (fun hH => ?_)
                  refine wpZ 0 hH ?_
                  refine wpZ 1 hH ?_
                  refine wpZ 2 hH ?_
                  refine wpZ 3 hH ?_
                  refine wpZ 4 hH ?_
                  refine wpZ 5 hH ?_
                  refine wpZ 6 hH ?_
                  refine wpZ 7 hH ?_
                  refine wpZ 8 hH ?_
                  refine wpZ 9 hH ?_
                  refine wpZ 10 hH ?_
                  refine wpZ 11 hH ?_
                  refine wpZ 12 hH ?_
                  refine wpZ 13 hH ?_
                  refine wpAnyX_done (by kernel_rfl) ?_
                  refine hK20 _ _ ?_
                  go_wp2_with fail
                  go_roundw
                  case rel =>
                    refine ⟨i + 1, _, by go_num, by omega, by omega, rfl, ?_, ?_, ?_, q + 1, rfl⟩
                    · exact good_app (good_app (good_ext HGD.out _ _) (let_good r7 (by omega))) (good_ext HGD.out _ _)
                    · rw [ByteArray.size_append, ByteArray.size_append, ByteArray.size_extract, ByteArray.size_extract, ByteArray.size_extract]; omega
                    · rw [ByteArray.size_append, ByteArray.size_append, ByteArray.size_extract, ByteArray.size_extract, ByteArray.size_extract]; omega
                  case measure => simp [RowKit.intOf]; omega
                · have hi5I : ¬ (i : Int) < 5 := by omega
                  go_wp2_with fail
                  go_meet
                  case rel => exact ⟨rd, rfl, HGD.out, hsd, ⟨rfl, rfl, rfl, Nat.le_refl _, fun _ _ => rfl⟩⟩
              · have hinI : ¬ (i : Int) < nr := by omega
                go_wp2_with fail
                go_meet
                case rel => exact ⟨rd, rfl, HGD.out, hsd, ⟨rfl, rfl, rfl, Nat.le_refl _, fun _ _ => rfl⟩⟩
      case rest =>
        obtain ⟨rd, rfl, hgd, hsd, hbX⟩ := hcut
        obtain ⟨wD, hwD⟩ : ∃ W : World, W = wc := ⟨_, rfl⟩
        subst hwD
        have HCD : Hid (Below wC.heap.size wC wD) := hbX
        have HGR : Hid (good rd) := hgd
        clear hbX hgd y0 y1
        go_upto_if 140 with fail
        go_cut [20] (fun rv wx => ∃ rd, rv = .string rd ∧ good rd ∧ rd.size ≤ 100 ∧ Below wD.heap.size wD wx)
        case first =>
          cases tn with
          | false =>
            go_wp2_with fail
            go_meet
            case rel => exact ⟨rd, rfl, HGR.out, hsd, Below.refl _ _⟩
          | true =>
            have cT := turned_any rd wD (by omega)
            go_wp2_with fail
            refine cT.mono ?_
            rintro e wT ⟨⟨_, rfl⟩ | ⟨hbad, _⟩, hbT⟩
            rotate_left
            · exact absurd HGR.out hbad
            have HBT : Hid (Below wD.heap.size wD wT) := hbT
            clear hbT cT
            go_wp2_with fail
            go_meet
            case rel => exact ⟨_, rfl, list_good (turn_mem_good _), by show (turnL rd.data.toList).toArray.size ≤ 100; rw [List.size_toArray, turnL_length]; have : rd.data.toList.length = rd.size := Array.length_toList; omega, HBT.out⟩
        case rest =>
          obtain ⟨rr, rfl, hgr, hsr, hbY⟩ := hcut
          obtain ⟨wE, hwE⟩ : ∃ W : World, W = wc := ⟨_, rfl⟩
          subst hwE
          have HCE : Hid (Below wC.heap.size wC wE) := HCD.out.trans (hbY.mono HCD.out.size)
          have HSE : Hid (Below wS.heap.size wS wE) := HCS.out.trans (HCE.out.mono HCS.out.size)
          have HE : Hid (Below w.heap.size w wE) := HBS.out.trans (HSE.out.mono HBS.out.size)
          have HIE : Hid (IxP wE base X [⟨⟨#[97]⟩, ra⟩, ⟨⟨#[98]⟩, rb⟩] k ww sc) := HI.out.kept (fun g hg => HCE.out.block g hg)
          have HGR2 : Hid (good rr) := hgr
          obtain ⟨TR, hTR⟩ : ∃ T : ByteArray, T = ⟨(ofL 114 rr).toArray⟩ := ⟨_, rfl⟩
          have HOR : Hid (∀ W : World, Calls Tryz.prog 19 #[.string ⟨#[114]⟩, .string rr] W fun e w' => e = .returned (.string TR) ∧ Below W.heap.size W w') := by
            intro W; rw [hTR]; exact of_any 114 rr W (by omega)
          have HM : Hid (∀ W : World, Below w.heap.size w W → IxP W base X [⟨⟨#[97]⟩, ra⟩, ⟨⟨#[98]⟩, rb⟩] k ww sc → Calls Tryz.prog 21 #[.pointer (some ⟨X, 0, none⟩), .string TR] W fun e w' => MpT [⟨⟨#[97]⟩, ra⟩, ⟨⟨#[98]⟩, rb⟩] k ww sc rr W e w') := by
            intro W hW hIW
            rw [hTR]
            exact map_told _ base X k ww sc rr W hgr hsr (by omega) (by omega) (by omega) (by omega) HRO.out hIW (tabOnM HTAB.out hW) (HLT.out.below hW)
          clear hbY hgr hTR HI HCS HCD HGR
          go_wp2_with fail
          refine (HOR.out _).mono ?_
          rintro e wF ⟨rfl, hbF⟩
          have HSF : Hid (Below wS.heap.size wS wF) := HSE.out.trans (hbF.mono HSE.out.size)
          have HF : Hid (Below w.heap.size w wF) := HE.out.trans (hbF.mono HE.out.size)
          have HIF : Hid (IxP wF base X [⟨⟨#[97]⟩, ra⟩, ⟨⟨#[98]⟩, rb⟩] k ww sc) := HIE.out.kept (fun g hg => hbF.block g hg)
          clear hbF HOR HIE HSE HE
          go_wp2_with fail
          refine (HM.out _ HF.out HIF.out).mono ?_
          rintro e wM ⟨ao2, n, cp2, rfl, hn1, hbM, hfd⟩
          have HSM : Hid (Below wS.heap.size wS wM) := HSF.out.trans (hbM.mono HSF.out.size)
          have HMB : Hid (Below w.heap.size w wM) := HF.out.trans (hbM.mono HF.out.size)
          have HFD := (show Hid _ from hfd)
          have hn1I : ¬ (1 : Int) < n := by omega
          clear hbM HM HIF HSF HF hfd
          go_wp2_with fail
          go_loopw [28] (fun iv wx => ∃ i : Nat, iv = .int .i64 i ∧ i ≤ n ∧ Below wM.heap.size wM wx) (fun iv _ => n - (RowKit.intOf iv).toNat)
          case atStart => exact ⟨0, rfl, Nat.zero_le _, Below.refl _ _⟩
          case round =>
            obtain ⟨i, rfl, hin, hbr⟩ := hrel
            have HBR : Hid (Below wM.heap.size wM wr) := hbr
            clear hbr
            by_cases hlt : i < n
            · have hi0 : i = 0 := by omega
              subst hi0
              have hltI : (0 : Int) < n := by omega
              obtain ⟨f, g, o, rfl, hgl, hfind, hcs⟩ := HFD.out hlt
              obtain ⟨fi, fb, r0, p0, r1', p1, sq, oq, hT⟩ := find_told _ k ww sc _ rr f (by omega) (by omega) (by omega) HRO.out HGR2.out hfind
              have gM : ∀ W : World, (∀ j, j < wM.heap.size → W.heap[j]? = wM.heap[j]?) → (W.cell? ⟨g, o, none⟩ = some (.string f.rd) ∧ W.cell? ⟨g, o + 1, none⟩ = some (.int .i64 f.fr) ∧ W.cell? ⟨g, o + 2, none⟩ = some (.int .i64 f.tl) ∧ W.cell? ⟨g, o + 3, none⟩ = some (.bool f.bk) ∧ W.cell? ⟨g, o + 4, none⟩ = some (.string f.sn) ∧ W.cell? ⟨g, o + 5, none⟩ = some (.int .i64 f.st) ∧ W.cell? ⟨g, o + 6, none⟩ = some (.int .i64 f.en) ∧ W.cell? ⟨g, o + 7, none⟩ = some (.float .f64 (fq f.sq)) ∧ W.cell? ⟨g, o + 8, none⟩ = some (.float .f64 (fq f.oq)) ∧ W.cell? ⟨g, o + 9, none⟩ = some (.int .i64 f.ql) ∧ W.cell? ⟨g, o + 10, none⟩ = some (.string ⟨f.sc.toArray⟩) ∧ W.cell? ⟨g, o + 11, none⟩ = some (.int .i64 f.sm) ∧ W.cell? ⟨g, o + 12, none⟩ = some (.float .f64 f.id)) ∧ W.cell? ⟨w.heap.size, 0, none⟩ = some (.int .i64 k) ∧ W.cell? ⟨w.heap.size, 1, none⟩ = some (.int .i64 ww) ∧ W.cell? ⟨w.heap.size, 2, none⟩ = some (.float .f64 sc) := by
                intro W hW
                have e0 : W.heap[w.heap.size]? = _ := (hW _ (by have := HSM.out.size; have := HSZ.out; have := HZ1.out; omega)).trans ((HSM.out.block _ (by have := HSZ.out; have := HZ1.out; omega)).trans HS0.out)
                have eg := fun j => World.cell?_of_block (w' := W) (w := wM) (a := ⟨g, j, none⟩) (hW g hgl)
                refine ⟨⟨?_, ?_, ?_, ?_, ?_, ?_, ?_, ?_, ?_, ?_, ?_, ?_, ?_⟩, cell_at e0 rfl, cell_at e0 rfl, cell_at e0 rfl⟩
                · exact (eg _).trans (hcs 0 _ rfl)
                · exact (eg _).trans (hcs 1 _ rfl)
                · exact (eg _).trans (hcs 2 _ rfl)
                · exact (eg _).trans (hcs 3 _ rfl)
                · exact (eg _).trans (hcs 4 _ rfl)
                · exact (eg _).trans (hcs 5 _ rfl)
                · exact (eg _).trans (hcs 6 _ rfl)
                · exact (eg _).trans (hcs 7 _ rfl)
                · exact (eg _).trans (hcs 8 _ rfl)
                · exact (eg _).trans (hcs 9 _ rfl)
                · exact (eg _).trans (hcs 10 _ rfl)
                · exact (eg _).trans (hcs 11 _ rfl)
                · exact (eg _).trans (hcs 12 _ rfl)
              have cK : ∀ W : World, (∀ j, j < wM.heap.size → W.heap[j]? = wM.heap[j]?) → Below w.heap.size w W → Calls Tryz.prog 22 #[.agg #[.string f.rd, .int .i64 f.fr, .int .i64 f.tl, .bool f.bk, .string f.sn, .int .i64 f.st, .int .i64 f.en, .float .f64 (fq f.sq), .float .f64 (fq f.oq), .int .i64 f.ql, .string ⟨f.sc.toArray⟩, .int .i64 f.sm, .float .f64 f.id], .string rr, .slice (some ⟨w1.heap.size, 0, none⟩) 2 2, .agg #[.int .i64 k, .int .i64 ww, .float .f64 sc]] W fun e w' => e = .returned (.bool true) ∧ Below W.heap.size W w' := by
                intro W hW hBW
                have e1 : W.heap[w1.heap.size]? = _ := (hW _ (by have := HSM.out.size; have := HSZ.out; omega)).trans ((HSM.out.block _ (by have := HSZ.out; omega)).trans HS1.out)
                exact checked_told ra rb rr k ww sc w1.heap.size 0 2 f fi fb r0 p0 r1' p1 sq oq W (by omega) (by omega) hT (cell_at e1 rfl) (cell_at e1 rfl) HGR2.out G1.out G2.out s1 s2 (tabOnM HTAB.out hBW)
              clear hT hfind hcs
              have HCK := (show Hid _ from cK)
              have HGM := (show Hid _ from gM)
              clear cK gM
              go_wp2_with fail
              rename_i K29 hK29
              have hb0 : ∀ j, j < wM.heap.size → wr.drew.heap[j]? = wM.heap[j]? := fun j hj => HBR.out.block j hj
              refine wp_region_X 9 (fun W => (W.cell? ⟨g, o, none⟩ = some (.string f.rd) ∧ W.cell? ⟨g, o + 1, none⟩ = some (.int .i64 f.fr) ∧ W.cell? ⟨g, o + 2, none⟩ = some (.int .i64 f.tl) ∧ W.cell? ⟨g, o + 3, none⟩ = some (.bool f.bk) ∧ W.cell? ⟨g, o + 4, none⟩ = some (.string f.sn) ∧ W.cell? ⟨g, o + 5, none⟩ = some (.int .i64 f.st) ∧ W.cell? ⟨g, o + 6, none⟩ = some (.int .i64 f.en) ∧ W.cell? ⟨g, o + 7, none⟩ = some (.float .f64 (fq f.sq)) ∧ W.cell? ⟨g, o + 8, none⟩ = some (.float .f64 (fq f.oq)) ∧ W.cell? ⟨g, o + 9, none⟩ = some (.int .i64 f.ql) ∧ W.cell? ⟨g, o + 10, none⟩ = some (.string ⟨f.sc.toArray⟩) ∧ W.cell? ⟨g, o + 11, none⟩ = some (.int .i64 f.sm) ∧ W.cell? ⟨g, o + 12, none⟩ = some (.float .f64 f.id)) ∧ W.cell? ⟨w.heap.size, 0, none⟩ = some (.int .i64 k) ∧ W.cell? ⟨w.heap.size, 1, none⟩ = some (.int .i64 ww) ∧ W.cell? ⟨w.heap.size, 2, none⟩ = some (.float .f64 sc)) (by kernel_rfl) (HGM.out wr.drew hb0) (fun hH => ?_)
              refine wpZ 0 hH ?_
              refine wpZ 1 hH ?_
              refine wpZ 2 hH ?_
              refine wpZ 3 hH ?_
              refine wpZ 4 hH ?_
              refine wpZ 5 hH ?_
              refine wpZ 6 hH ?_
              refine wpAnyX_step (i := 7) (by kernel_rfl) rfl (by kernel_rfl) (fun K hK => ?_)
              go_simp
              go_at_call 22
              have hbw : Below w.heap.size w wr := HMB.out.trans (HBR.out.mono HMB.out.size)
              refine (HCK.out _ hb0 ⟨hbw.os, hbw.tape, hbw.output, hbw.size, hbw.block⟩).mono ?_
              rintro e wK ⟨rfl, hbK⟩
              have hb1 : ∀ j, j < wM.heap.size → wK.heap[j]? = wM.heap[j]? := fun j hj => (hbK.block j (by have := HBR.out.size; show j < wr.heap.size; omega)).trans (hb0 j hj)
              have HBK : Hid (Below wM.heap.size wM wK) := HBR.out.trans ((show Below wr.heap.size wr wK from ⟨hbK.os, hbK.tape, hbK.output, hbK.size, hbK.block⟩).mono HBR.out.size)
              have hH := HGM.out wK hb1
              refine hK.out _ _ hH ?_
              clear hK K hbK hbw
              try simp only [Act.put, zA0, zZ0, zS0]
              refine wpZ 8 hH ?_
              refine wpAnyX_done (by kernel_rfl) ?_
              refine hK29 _ _ ?_
              clear hK29 hH hb0 hb1
              go_wp2_with fail
              go_roundw
              case rel => exact ⟨1, by go_num, by omega, HBK.out⟩
              case measure => simp [RowKit.intOf]; omega
            · have hin' : i = n := by omega
              subst hin'
              go_wp2_with fail
              go_ret
              exact ⟨rfl, HMB.out.trans (HBR.out.mono HMB.out.size)⟩
end Go.Proofs.YtilcmkiihefkkaaGreatDoor.Mn
end
