import Derived.Test.YtilcmkiihefkkabGreatDoorJk18
import Derived.Test.YtilcmkiihefkkabGreatDoorJk34
section
set_option linter.unusedVariables false
set_option linter.unusedSimpArgs false
set_option maxRecDepth 100000
namespace Go.Proofs.YtilcmkiihefkkabGreatDoor.Mn
open Go.RowKit Go.Shelf Go.Lib
/-- unicode.IsLetter may be called from here on -/
def LtP (w : World) : Prop := PredGrows Tryz.prog 102 #[] ltP w
theorem LtP.below {w w' : World} (h : LtP w) (hb : Below w.heap.size w w') : LtP w' := fun W x hx hW => h W x hx (hb.trans (hW.mono hb.size))
def sumR (ps : List (Nat × Nat)) : Nat → Nat
  | 0 => 0
  | j + 1 => sumR ps j + (ps.getD j (0, 0)).1
theorem enterIL (args : Array Value) (w : World) : (callFunc 102 args).run Tryz.prog w = .ok (.enter 102 args) w := enter_of Tryz.func102 (by kernel_rfl) rfl args w
theorem dl4 : ∀ n : Fin 1001, (decDigits n.val).length ≤ 4 := by decide +kernel
set_option maxHeartbeats 4000000 in
theorem pletters_any (ps : List (Nat × Nat)) (h : ∀ p ∈ ps, p.1 ≤ 1000 ∧ p.2 ≤ 2) (hl : ps.length ≤ 1000) (hs : (rtxt ps).length ≤ 100000) (w : World) (hp : LtP w) :
    Calls Tryz.prog 65 #[.string ⟨(rtxt ps).toArray⟩] w fun e w' => e = .returned (.int .i64 (sumR ps ps.length : Nat)) ∧ Below w.heap.size w w' := by
  have cF := Any.strings_FieldsFunc_grows Tryz.laysFF 102 #[] enterIL ltP ⟨(rtxt ps).toArray⟩ w (by show (rtxt ps).toArray.size ≤ _; simp; omega) hp (by kernel_rfl) (by kernel_rfl)
  rw [fields_rtxt ps (fun p hp => (h p hp).2)] at cF
  change Calls Tryz.prog 101 _ _ _ at cF
  have HPS : Hid (∀ p ∈ ps, p.1 ≤ 1000 ∧ p.2 ≤ 2) := h
  obtain ⟨txt, ht⟩ : ∃ t : ByteArray, t = ⟨(rtxt ps).toArray⟩ := ⟨_, rfl⟩
  rw [← ht] at cF ⊢
  obtain ⟨n, hn⟩ : ∃ n, n = ps.length := ⟨_, rfl⟩
  rw [List.length_map, ← hn] at cF
  rw [← hn] at hl ⊢
  have HN : Hid (n = ps.length) := hn
  clear ht hn h hp hs
  go_enter Tryz.func65, Tryz.ntmps65
  go_wp2_with fail
  refine cF.mono ?_
  rintro e w1 ⟨A, rfl, hA, hown, hb⟩
  have HO : Hid (w1.ownsRow w.heap.size 9 1 (.slice (some ⟨A, 0, none⟩) n n) n ((ps.map (fun p => (⟨(decDigits p.1).toArray⟩ : ByteArray))).map Value.string)) := hown
  have HB : Hid (Below w.heap.size w w1) := hb
  clear hown hb cF
  go_wp2
  go_loopw [3, 11] (fun t i wr => ∃ j : Nat, j ≤ n ∧ i = .int .i64 j ∧ t = .int .i64 (sumR ps j : Nat) ∧ sumR ps j ≤ 1000 * j ∧ Below w1.heap.size w1 wr) (fun _ i _ => n - (RowKit.intOf i).toNat)
  case atStart => exact ⟨0, Nat.zero_le _, rfl, rfl, Nat.le_refl _, Below.refl _ _⟩
  case round =>
    obtain ⟨j, hj, rfl, rfl, hsm, hbl⟩ := hrel
    have HBL : Hid (Below w1.heap.size w1 wr) := hbl
    clear hbl
    by_cases hlt : j < n
    · have hjp : j < ps.length := by have := HN.out; omega
      obtain ⟨p, hpj⟩ : ∃ p, p = ps[j] := ⟨_, rfl⟩
      have hp1 := HPS.out p (by rw [hpj]; exact List.getElem_mem _)
      have d0 : wr.cell? ⟨A, j, none⟩ = some (.string ⟨(decDigits p.1).toArray⟩) := by
        rcases HO.out.2 with ⟨h, _⟩ | ⟨g, cap, cur, h, _, hg, _, _, _, h6⟩
        · simp at h
        · simp only [Value.slice.injEq, Option.some.injEq, Addr.mk.injEq, and_true, true_and] at h
          obtain ⟨rfl, rfl⟩ := h
          have hgr := (HBL.out.block _ (lt_of_block hg)).trans hg
          refine cell_at hgr ?_
          have h7 : (cur.toList.take (n * 1))[j]? = some (.string ⟨(decDigits p.1).toArray⟩) := by
            rw [h6, List.getElem?_map, List.getElem?_map, List.getElem?_eq_getElem hjp, ← hpj]; rfl
          rw [List.getElem?_take] at h7
          split at h7
          · simpa using h7
          · cases h7
      have cA := fun W => Any.strconv_Atoi_ok Tryz.laysAT ⟨(decDigits p.1).toArray⟩ (by show (decDigits p.1).toArray.size ≤ _; have h4 : (decDigits p.1).length ≤ 4 := dl4 ⟨p.1, by omega⟩; simp only [List.size_toArray]; omega) (p.1 : Int) (by have := at1000 ⟨p.1, by omega⟩; simpa using this) W
      change ∀ W, Calls Tryz.prog 103 _ _ _ at cA
      have HSU : Hid (sumR ps (j + 1) = sumR ps j + p.1) := by show sumR ps j + (ps.getD j (0, 0)).1 = _; rw [hpj]; simp [List.getD_eq_getElem?_getD, List.getElem?_eq_getElem hjp]
      clear hpj
      go_wp2_with fail
      refine (cA wr).mono ?_
      rintro e w2 ⟨rfl, hw2⟩
      have HB2 : Hid (Below w1.heap.size w1 w2) := by
        rcases hw2 with rfl | ⟨t, rfl⟩
        · exact HBL.out
        · exact HBL.out.trans ((bytesWorld_below _ _ _).mono HBL.out.size)
      clear hw2 d0 cA
      go_wp2
      go_roundw
      case rel =>
        have := HSU.out
        refine ⟨j + 1, by omega, by go_num, ?_, by omega, HB2.out⟩
        rw [HSU.out]
        go_num
      case measure => simp [RowKit.intOf]; omega
    · have hjn : j = n := by omega
      subst hjn
      go_wp2
      go_ret
      exact ⟨rfl, HB.out.trans (HBL.out.mono HB.out.size)⟩
end Go.Proofs.YtilcmkiihefkkabGreatDoor.Mn
end
