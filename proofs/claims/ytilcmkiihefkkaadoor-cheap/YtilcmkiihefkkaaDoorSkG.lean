import Derived.Test.YtilcmkiihefkkaaDoorSkF
set_option linter.unusedVariables false
set_option linter.unusedSimpArgs false
set_option maxRecDepth 100000
namespace Go.Proofs.YtilcmkiihefkkaaDoor
open Go.RowKit Go.Shelf

/-- a list of whole numbers that is read -/
def RdI (w : World) (ao : Option Addr) (n : Nat) : Prop := n = 0 ∨ ∃ b off, ao = some ⟨b, off, none⟩ ∧ b < w.heap.size ∧ ∀ j, j < n → ∃ x : Int, w.cell? ⟨b, off + j, none⟩ = some (.int .i64 x) ∧ -9223372036854775808 ≤ x ∧ x ≤ 9223372036854775807

theorem RdI.keep {w w' : World} {ao : Option Addr} {n : Nat} (h : RdI w ao n) (hb : Below w.heap.size w w') : RdI w' ao n := by
  rcases h with h | ⟨b, off, h1, h2, h3⟩
  · exact Or.inl h
  · refine Or.inr ⟨b, off, h1, Nat.lt_of_lt_of_le h2 hb.size, fun j hj => ?_⟩
    obtain ⟨x, hx, hx2⟩ := h3 j hj
    exact ⟨x, (World.cell?_of_block (hb.block b h2)).trans hx, hx2⟩

def ChP (w : World) (e : Ending) (w' : World) : Prop := e = .returned (.bool true) ∧ Below w.heap.size w w'

/-- a cleaned text -/
theorem clean_good (s : ByteArray) (M : Nat) : good ⟨(cleanL s.data.toList M).toArray⟩ := by
  rw [good_iff]
  intro c hc
  simp only at hc
  unfold cleanL at hc
  obtain ⟨x, _, rfl⟩ := List.mem_map.1 hc
  exact cleanB_good x

theorem clean_size (s : ByteArray) (M : Nat) : (⟨(cleanL s.data.toList M).toArray⟩ : ByteArray).size ≤ M := by
  show (cleanL s.data.toList M).toArray.size ≤ M
  rw [List.size_toArray, cleanL_length]
  omega

theorem tabOn {w w1 : World} (h : Lib.TabBelow Tryd.prog w.heap.size w "internal/strconv.uint64pow10" .u64 Lib.pow10Tab) (hb : Below w.heap.size w w1) : Lib.TabBelow Tryd.prog w1.heap.size w1 "internal/strconv.uint64pow10" .u64 Lib.pow10Tab :=
  fun w' h' => h w' (hb.trans (h'.mono hb.size))

set_option maxHeartbeats 16000000 in
theorem cheap_any (a b : ByteArray) (ao : Option Addr) (nr cr : Nat) (w : World) (hl1 : a.size ≤ 140737488351232) (hl2 : b.size ≤ 140737488351232) (hnr : nr ≤ 9223372036854775807) (hrd : RdI w ao nr) (htab : Lib.TabBelow Tryd.prog w.heap.size w "internal/strconv.uint64pow10" .u64 Lib.pow10Tab) :
    Calls Tryd.prog 4 #[.string a, .string b, .slice ao nr cr] w (ChP w) := by
  have HRD : Hid (RdI w ao nr) := hrd
  have HTAB : Hid (Lib.TabBelow Tryd.prog w.heap.size w "internal/strconv.uint64pow10" .u64 Lib.pow10Tab) := htab
  have cA := fun W => clean_any a 60 (by omega) W hl1
  have cB := fun W => clean_any b 60 (by omega) W hl2
  have g1 := clean_good a 60
  have g2 := clean_good b 60
  have s1 := clean_size a 60
  have s2 := clean_size b 60
  generalize (⟨(cleanL a.data.toList 60).toArray⟩ : ByteArray) = read at cA g1 s1
  generalize (⟨(cleanL b.data.toList 60).toArray⟩ : ByteArray) = ref at cB g2 s2
  simp only [show ((60 : Nat) : Int) = 60 from rfl] at cA cB
  obtain ⟨hE, hT, hN⟩ := scT_fwd g1 g2 (by omega) (by omega)
  have cS := fun (W : World) (hw : Below w.heap.size w W) => pscript_any read ref W (by omega) (by omega) (tabOn htab hw)
  rw [hE, hT, hN] at cS
  obtain ⟨la, hpst⟩ := rtxt_pst (fwd read ref) (fwd_le read ref) (by have := fwd_len read ref; omega)
  have hTl : (rtxt (rl (fwd read ref) (fwd read ref).length).2).length ≤ 30 * 120 := by
    have h1 := rtxt_len (rl (fwd read ref) (fwd read ref).length).2 (fun p hp => by have := (rl_small (fwd read ref) 1000 (by have := fwd_len read ref; omega) (fwd_le read ref) _ (Nat.le_refl _) p hp).2.1; omega)
    have h2 := rl_len (fwd read ref) (fwd read ref).length
    have h3 := fwd_len read ref
    omega
  generalize rtxt (rl (fwd read ref) (fwd read ref).length).2 = TT at cS hpst hTl
  have cL := fun W => lletters_any ⟨TT.toArray⟩ (fwd read ref) la (by show TT.toArray.size ≤ _; rw [List.size_toArray]; omega) (by simpa using hpst) W
  have cC := fun W => lcost_any (fwd read ref) read ref (fwd_le read ref) (by have := fwd_len read ref; omega) (by omega) (by omega) (fwd_end read ref (by omega) (by omega)) W
  have cS2 := fun (W : World) (hw : Below w.heap.size w W) => pscript_any ⟨#[65, 67, 84]⟩ ⟨#[65, 67, 71, 84]⟩ W (by decide) (by decide) (tabOn htab hw)
  simp only [show (⟨#[65, 67, 84]⟩ : ByteArray).data.toList = [65, 67, 84] from rfl, show (⟨#[65, 67, 71, 84]⟩ : ByteArray).data.toList = [65, 67, 71, 84] from rfl, ex_E, ex_T, ex_N] at cS2
  have HCH : Hid (∀ O : List Nat, (∀ x ∈ O, x ≤ 2) → O.foldl stF (0, 0) = (read.size, ref.size) → cst (uR read ref) (fwd read ref).reverse read.size ref.size ≤ cst (uR read ref) O.reverse read.size ref.size ∧
    (cst (uR read ref) O.reverse read.size ref.size = cst (uR read ref) (fwd read ref).reverse read.size ref.size → ¬ ahd O.reverse (fwd read ref).reverse)) := fun O h1 h2 => cheapest read ref (by omega) (by omega) O h1 h2
  have HFL : Hid (∀ x ∈ fwd read ref, x ≤ 2) := fwd_le read ref
  have hFn : (fwd read ref).length ≤ 120 := by have := fwd_len read ref; omega
  generalize fwd read ref = F at cS cL cC HCH HFL hFn
  have HCO : Hid (∀ W, Calls Tryd.prog 9 #[.string (lets F), .string read, .string ref] W (CoP F read ref W)) := cC
  have HLE : Hid (∀ W, Calls Tryd.prog 8 #[.string ⟨TT.toArray⟩] W (LeP F W)) := cL
  have HS1 := (show Hid _ from cS)
  have HS2 := (show Hid _ from cS2)
  have HcA := (show Hid _ from cA)
  have HcB := (show Hid _ from cB)
  clear cA cB cS cS2 cL cC hpst hTl hE hT hN g1 g2 htab hrd
  obtain ⟨CF, hCF⟩ : ∃ CF, CF = cst (uR read ref) F.reverse read.size ref.size := ⟨_, rfl⟩
  obtain ⟨NF, hNF⟩ : ∃ NF, NF = cntF (sR read ref) F (0, 0) := ⟨_, rfl⟩
  have HCF : Hid (CF = cst (uR read ref) F.reverse read.size ref.size) := hCF
  have HNF : Hid (NF = cntF (sR read ref) F (0, 0)) := hNF
  clear hCF hNF
  go_enter Tryd.func4, Tryd.ntmps4
  go_wp2_with fail
  refine (HcA.out _).mono ?_
  rintro e w1 ⟨rfl, hw1⟩
  obtain rfl := hw1.symm
  go_wp2_with fail
  refine (HcB.out _).mono ?_
  rintro e w1 ⟨rfl, hw1⟩
  obtain rfl := hw1.symm
  clear HcA HcB hw1
  go_wp2_with fail
  refine (HS1.out w (Below.refl _ _)).mono ?_
  rintro e w1 ⟨rfl, hb1⟩
  have HB1 : Hid (Below w.heap.size w w1) := hb1
  clear hb1 HS1
  rw [← HNF.out]
  go_wp2_with fail
  refine (HLE.out w1).mono ?_
  rintro e w2 ⟨rfl, hb2⟩
  have HB2 : Hid (Below w.heap.size w w2) := HB1.out.trans (hb2.mono HB1.out.size)
  clear hb2 HLE HB1
  go_wp2_with fail
  refine (HCO.out w2).mono ?_
  rintro e w3 ⟨rfl, hb3⟩
  have HB3 : Hid (Below w.heap.size w w3) := HB2.out.trans (hb3.mono HB2.out.size)
  clear hb3 HCO HB2
  rw [← HNF.out, ← HCF.out]
  go_wp2_with fail
  refine (HS2.out w3 HB3.out).mono ?_
  rintro e w4 ⟨rfl, hb4⟩
  have HB4 : Hid (Below w.heap.size w w4) := HB3.out.trans (hb4.mono HB3.out.size)
  clear hb4 HS2 HB3
  go_wp2_with fail
  go_loopw [20, 21, 22, 23] (fun ov iv jv kv wx => ∃ (k i j : Nat) (O : List Nat), ov = .string (lets O) ∧ iv = .int .i64 i ∧ jv = .int .i64 j ∧ kv = .int .i64 k ∧ i ≤ read.size ∧ j ≤ ref.size ∧ k ≤ i + j ∧ O.length ≤ i + j ∧ (∀ x ∈ O, x ≤ 2) ∧ O.foldl stF (0, 0) = (i, j) ∧ Below w.heap.size w wx) (fun _ iv jv _ _ => read.size + ref.size - ((intOf iv).toNat + (intOf jv).toNat))
  case atStart => exact ⟨0, 0, 0, [], rfl, rfl, rfl, rfl, Nat.zero_le _, Nat.zero_le _, Nat.zero_le _, Nat.zero_le _, fun x hx => (by cases hx), rfl, HB4.out⟩
  case round =>
    clear HB4
    obtain ⟨k, i, j, O, rfl, rfl, rfl, rfl, hi, hj, hk, hOl, hO2, hOf, hbel⟩ := hrel
    have HBL : Hid (Below w.heap.size w wr) := hbel
    have HO2 : Hid (∀ x ∈ O, x ≤ 2) := hO2
    have HSN : Hid (∀ l, l ≤ 2 → ∀ x ∈ O ++ [l], x ≤ 2) := fun l hl x hx => by
      rcases List.mem_append.1 hx with h | h
      · exact hO2 x h
      · rw [List.mem_singleton.1 h]; exact hl
    have HFO : Hid (O.foldl stF (0, 0) = (i, j)) := hOf
    have HRW : Hid (RdI wr ao nr) := HRD.out.keep hbel
    clear hbel hO2 hOf
    obtain ⟨P, hP⟩ : ∃ P, P = lets O := ⟨_, rfl⟩
    have hPs : P.size ≤ 120 := by rw [hP, lets_size]; omega
    have hPo : ¬ 9223372036854775807 < P.size + 1 := by omega
    have HP : Hid (P = lets O) := hP
    rw [← hP]
    clear hP
    have hiw : IntKind.i64.wrap ((i : Int) + 1) = (i : Int) + 1 := by rw [IntKind.wrap_i64]; omega
    have hjw : IntKind.i64.wrap ((j : Int) + 1) = (j : Int) + 1 := by rw [IntKind.wrap_i64]; omega
    have hkw : IntKind.i64.wrap ((k : Int) + 1) = (k : Int) + 1 := by rw [IntKind.wrap_i64]; omega
    by_cases hil : i < read.size
    · by_cases hjl : j < ref.size
      · have hiI : (i : Int) < read.size := by omega
        have hjI : (j : Int) < ref.size := by omega
        have hje : ((j : Int) == ref.size) = false := by rw [beq_eq_false_iff_ne]; omega
        by_cases hkr : k < nr
        · have hkI : (k : Int) < nr := by omega
          rcases HRW.out with h0 | ⟨bb, off, rfl, hbl, hcl⟩
          · omega
          · obtain ⟨x, hx, hx1, hx2⟩ := hcl k hkr
            have cP := fun W => lpick_any x 3 W ⟨hx1, hx2⟩ (by omega) (by omega)
            clear hcl
            go_wp2_with fail
            refine (cP _).mono ?_
            rintro e w9 ⟨r, rfl, hr, hw9⟩
            obtain rfl := hw9.symm
            clear hw9 cP
            rcases (show r = 0 ∨ r = 1 ∨ r = 2 by omega) with rfl | rfl | rfl
            · go_wp2_with fail
              go_roundw
              case rel => exact ⟨k + 1, i + 1, j + 1, O ++ [0], by rw [lets_snoc, ← HP.out]; rfl, by go_num, by go_num, by go_num, by omega, by omega, by omega, by rw [List.length_append]; simp only [List.length_cons, List.length_nil]; omega, HSN.out 0 (by omega), by rw [List.foldl_append, HFO.out]; rfl, HBL.out⟩
              case measure => simp [intOf]; omega
            · go_wp2_with fail
              go_roundw
              case rel => exact ⟨k + 1, i + 1, j, O ++ [1], by rw [lets_snoc, ← HP.out]; rfl, by go_num, rfl, by go_num, by omega, by omega, by omega, by rw [List.length_append]; simp only [List.length_cons, List.length_nil]; omega, HSN.out 1 (by omega), by rw [List.foldl_append, HFO.out]; rfl, HBL.out⟩
              case measure => simp [intOf]; omega
            · go_wp2_with fail
              go_roundw
              case rel => exact ⟨k + 1, i, j + 1, O ++ [2], by rw [lets_snoc, ← HP.out]; rfl, rfl, by go_num, by go_num, by omega, by omega, by omega, by rw [List.length_append]; simp only [List.length_cons, List.length_nil]; omega, HSN.out 2 (by omega), by rw [List.foldl_append, HFO.out]; rfl, HBL.out⟩
              case measure => simp [intOf]; omega
        · have hkI : ¬ (k : Int) < nr := by omega
          go_wp2_with fail
          go_roundw
          case rel => exact ⟨k + 1, i + 1, j + 1, O ++ [0], by rw [lets_snoc, ← HP.out]; rfl, by go_num, by go_num, by go_num, by omega, by omega, by omega, by rw [List.length_append]; simp only [List.length_cons, List.length_nil]; omega, HSN.out 0 (by omega), by rw [List.foldl_append, HFO.out]; rfl, HBL.out⟩
          case measure => simp [intOf]; omega
      · have hiI : (i : Int) < read.size := by omega
        have hjI : ¬ (j : Int) < ref.size := by omega
        have hje : ((j : Int) == ref.size) = true := by rw [beq_iff_eq]; omega
        by_cases hkr : k < nr
        · have hkI : (k : Int) < nr := by omega
          rcases HRW.out with h0 | ⟨bb, off, rfl, hbl, hcl⟩
          · omega
          · obtain ⟨x, hx, hx1, hx2⟩ := hcl k hkr
            have cP := fun W => lpick_any x 3 W ⟨hx1, hx2⟩ (by omega) (by omega)
            clear hcl
            go_wp2_with fail
            refine (cP _).mono ?_
            rintro e w9 ⟨r, rfl, hr, hw9⟩
            obtain rfl := hw9.symm
            clear hw9 cP
            rcases (show r = 0 ∨ r = 1 ∨ r = 2 by omega) with rfl | rfl | rfl
            · go_wp2_with fail
              go_roundw
              case rel => exact ⟨k + 1, i + 1, j, O ++ [1], by rw [lets_snoc, ← HP.out]; rfl, by go_num, rfl, by go_num, by omega, by omega, by omega, by rw [List.length_append]; simp only [List.length_cons, List.length_nil]; omega, HSN.out 1 (by omega), by rw [List.foldl_append, HFO.out]; rfl, HBL.out⟩
              case measure => simp [intOf]; omega
            · go_wp2_with fail
              go_roundw
              case rel => exact ⟨k + 1, i + 1, j, O ++ [1], by rw [lets_snoc, ← HP.out]; rfl, by go_num, rfl, by go_num, by omega, by omega, by omega, by rw [List.length_append]; simp only [List.length_cons, List.length_nil]; omega, HSN.out 1 (by omega), by rw [List.foldl_append, HFO.out]; rfl, HBL.out⟩
              case measure => simp [intOf]; omega
            · go_wp2_with fail
              go_roundw
              case rel => exact ⟨k + 1, i + 1, j, O ++ [1], by rw [lets_snoc, ← HP.out]; rfl, by go_num, rfl, by go_num, by omega, by omega, by omega, by rw [List.length_append]; simp only [List.length_cons, List.length_nil]; omega, HSN.out 1 (by omega), by rw [List.foldl_append, HFO.out]; rfl, HBL.out⟩
              case measure => simp [intOf]; omega
        · have hkI : ¬ (k : Int) < nr := by omega
          go_wp2_with fail
          go_roundw
          case rel => exact ⟨k + 1, i + 1, j, O ++ [1], by rw [lets_snoc, ← HP.out]; rfl, by go_num, rfl, by go_num, by omega, by omega, by omega, by rw [List.length_append]; simp only [List.length_cons, List.length_nil]; omega, HSN.out 1 (by omega), by rw [List.foldl_append, HFO.out]; rfl, HBL.out⟩
          case measure => simp [intOf]; omega
    · by_cases hjl : j < ref.size
      · have hiI : ¬ (i : Int) < read.size := by omega
        have hjI : (j : Int) < ref.size := by omega
        have hje : ((j : Int) == ref.size) = false := by rw [beq_eq_false_iff_ne]; omega
        by_cases hkr : k < nr
        · have hkI : (k : Int) < nr := by omega
          rcases HRW.out with h0 | ⟨bb, off, rfl, hbl, hcl⟩
          · omega
          · obtain ⟨x, hx, hx1, hx2⟩ := hcl k hkr
            have cP := fun W => lpick_any x 3 W ⟨hx1, hx2⟩ (by omega) (by omega)
            clear hcl
            go_wp2_with fail
            refine (cP _).mono ?_
            rintro e w9 ⟨r, rfl, hr, hw9⟩
            obtain rfl := hw9.symm
            clear hw9 cP
            rcases (show r = 0 ∨ r = 1 ∨ r = 2 by omega) with rfl | rfl | rfl
            · go_wp2_with fail
              go_roundw
              case rel => exact ⟨k + 1, i, j + 1, O ++ [2], by rw [lets_snoc, ← HP.out]; rfl, rfl, by go_num, by go_num, by omega, by omega, by omega, by rw [List.length_append]; simp only [List.length_cons, List.length_nil]; omega, HSN.out 2 (by omega), by rw [List.foldl_append, HFO.out]; rfl, HBL.out⟩
              case measure => simp [intOf]; omega
            · go_wp2_with fail
              go_roundw
              case rel => exact ⟨k + 1, i, j + 1, O ++ [2], by rw [lets_snoc, ← HP.out]; rfl, rfl, by go_num, by go_num, by omega, by omega, by omega, by rw [List.length_append]; simp only [List.length_cons, List.length_nil]; omega, HSN.out 2 (by omega), by rw [List.foldl_append, HFO.out]; rfl, HBL.out⟩
              case measure => simp [intOf]; omega
            · go_wp2_with fail
              go_roundw
              case rel => exact ⟨k + 1, i, j + 1, O ++ [2], by rw [lets_snoc, ← HP.out]; rfl, rfl, by go_num, by go_num, by omega, by omega, by omega, by rw [List.length_append]; simp only [List.length_cons, List.length_nil]; omega, HSN.out 2 (by omega), by rw [List.foldl_append, HFO.out]; rfl, HBL.out⟩
              case measure => simp [intOf]; omega
        · have hkI : ¬ (k : Int) < nr := by omega
          go_wp2_with fail
          go_roundw
          case rel => exact ⟨k + 1, i, j + 1, O ++ [2], by rw [lets_snoc, ← HP.out]; rfl, rfl, by go_num, by go_num, by omega, by omega, by omega, by rw [List.length_append]; simp only [List.length_cons, List.length_nil]; omega, HSN.out 2 (by omega), by rw [List.foldl_append, HFO.out]; rfl, HBL.out⟩
          case measure => simp [intOf]; omega
      · have hiI : ¬ (i : Int) < read.size := by omega
        have hjI : ¬ (j : Int) < ref.size := by omega
        have hie : i = read.size := by omega
        have hje : j = ref.size := by omega
        have hOf2 : O.foldl stF (0, 0) = (read.size, ref.size) := by rw [HFO.out, hie, hje]
        obtain ⟨hc1, hc2⟩ := HCH.out O HO2.out hOf2
        have cO := fun W => lcost_any O read ref HO2.out (by omega) (by omega) (by omega) hOf2 W
        have cH := fun W => lahead_any O F HO2.out HFL.out (by omega) (by omega) W
        rw [← HP.out] at cO cH
        rw [← HCF.out] at hc1 hc2
        have HCO2 := (show Hid _ from cO)
        have HCA := (show Hid _ from cH)
        obtain ⟨D, hD⟩ : ∃ D, D = cst (uR read ref) O.reverse read.size ref.size := ⟨_, rfl⟩
        obtain ⟨S, hS⟩ : ∃ S, S = cntF (sR read ref) O (0, 0) := ⟨_, rfl⟩
        have HD : Hid (D = cst (uR read ref) O.reverse read.size ref.size) := hD
        have HSS : Hid (S = cntF (sR read ref) O (0, 0)) := hS
        rw [← hD] at hc1 hc2
        have HC2 : Hid (D = CF → ¬ ahd O.reverse F.reverse) := hc2
        clear hD hS hc2 cO cH hOf2 hie hje
        go_wp2_with fail
        refine (HCO2.out wr).mono ?_
        rintro e w5 ⟨rfl, hb5⟩
        have HB5 : Hid (Below w.heap.size w w5) := HBL.out.trans (hb5.mono HBL.out.size)
        rw [← HD.out, ← HSS.out]
        clear hb5 HCO2 HBL
        have hnlt : ¬ D < CF := by omega
        by_cases hgt : CF < D
        · go_wp2_with fail
          go_ret
          exact ⟨rfl, HB5.out⟩
        · have hEq : D = CF := by omega
          have HEQ : Hid (D = CF) := hEq
          clear hEq
          go_wp2_with fail
          refine (HCA.out w5).mono ?_
          rintro e w6 ⟨r, rfl, hr, hw6⟩
          obtain rfl := hw6.symm
          have hrf : r = false := by
            cases r with
            | false => rfl
            | true => exact absurd (hr rfl) (HC2.out HEQ.out)
          subst hrf
          clear hr hw6 HCA
          go_wp2_with fail
          go_ret
          exact ⟨rfl, HB5.out⟩
end Go.Proofs.YtilcmkiihefkkaaDoor
