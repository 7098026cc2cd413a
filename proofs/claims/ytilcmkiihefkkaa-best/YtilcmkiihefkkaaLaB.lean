import Derived.Test.YtilcmkiihefkkaaLaA
import Derived.Laws.IdiomCopy
set_option linter.unusedVariables false
set_option linter.unusedSimpArgs false
namespace Go.Proofs.Ytilcmkiihefkkaa
open Go.RowKit

theorem run_copyA (w : World) (b o dLen dCap : Nat) (a : Addr) (sLen sCap : Nat) (cs : List Value) (hn : cs.length = sLen * 2) (hsd : sLen ≤ dLen)
    (hsrc : ∀ j v, cs[j]? = some v → w.cell? (a.add j) = some v) (hc : ∀ j, j < cs.length → (w.cell? ⟨b, o + j, none⟩).isSome = true) (hf : ∀ j, j < cs.length → w.frozen? ⟨b, o + j, none⟩ = false) (h1 : ∀ v ∈ cs, v.oneCell' = true) :
    ∀ ty, (Builtin.copy_ #[52, 52] ty #[.slice (some ⟨b, o, none⟩) dLen dCap, .slice (some a) sLen sCap]).run Try.prog w = .ok (goInt sLen) (w.setCells b o cs) := by
  intro ty
  obtain ⟨i0, hi, hz0, hz1, hz2⟩ := info_parts Try.info62
  have hl := run_loadCells_list (P := Try.prog) w a cs hsrc
  have hst := run_storeCells_cells (P := Try.prog) b o cs 0 w (by simpa using hc) (by simpa using hf) h1
  simp only [Nat.add_zero] at hst
  rw [hn] at hl
  have hm : Nat.min sLen dLen = sLen := Nat.min_eq_left hsd
  simp [Builtin.copy_, run_underlying Try.underlying52, Builtin.lenOf, Builtin.firstCells, sizeOf, typeInfo, hi, hz1, hm, hl, hst]

theorem run_copy0 (w : World) (b o dLen dCap : Nat) (ao : Option Addr) (sCap : Nat) :
    ∀ ty, (Builtin.copy_ #[52, 52] ty #[.slice (some ⟨b, o, none⟩) dLen dCap, .slice ao 0 sCap]).run Try.prog w = .ok (goInt 0) w := by
  intro ty
  obtain ⟨i0, hi, hz0, hz1, hz2⟩ := info_parts Try.info62
  have hm : Nat.min 0 dLen = 0 := Nat.zero_min _
  cases ao with
  | none => simp [Builtin.copy_, run_underlying Try.underlying52, Builtin.lenOf, Builtin.firstCells, sizeOf, typeInfo, hi, hz1, hm, storeCells]
  | some a =>
    have hl := run_loadCells_list (P := Try.prog) w a [] (by simp)
    simp only [List.length_nil] at hl
    simp [Builtin.copy_, run_underlying Try.underlying52, Builtin.lenOf, Builtin.firstCells, sizeOf, typeInfo, hi, hz1, hm, storeCells, hl]

/-- a list as a caller hands it in -/
def lentL (L : List (Int × Int)) : List (Int × Int) := L ++ List.replicate 8 (-77, -77)

theorem lentL_length (L : List (Int × Int)) : (lentL L).length = L.length + 8 := by unfold lentL; simp

theorem lentL_get (L : List (Int × Int)) (j : Nat) (h1 : L.length ≤ j) (h2 : j < (lentL L).length) : (lentL L)[j] = (-77, -77) := by
  unfold lentL at h2 ⊢
  rw [List.getElem_append_right h1, List.getElem_replicate]

def LeI (w wx : World) (L : List (Int × Int)) (g n i : Nat) : Prop := ∃ cur : Array Value, wx.heap[g]? = some (.cells cur 62 (0, 0)) ∧ cur.size = (n + 8) * 2 ∧ (∀ q (h : q < (lentL L).length), q < i → cur[2 * q]? = some (.int .i64 (lentL L)[q].1) ∧ cur[2 * q + 1]? = some (.int .i64 (lentL L)[q].2)) ∧ Below g w wx

theorem LeI.step {w wx : World} {L : List (Int × Int)} {g n i : Nat} (h : LeI w wx L g n i) (hn : L.length = n) (h1 : n ≤ i) (h2 : i < n + 8) : LeI w ((wx.setCell ⟨g, i * 2, none⟩ (.int .i64 (-77))).setCell ⟨g, i * 2 + 1, none⟩ (.int .i64 (-77))) L g n (i + 1) := by
  obtain ⟨cur, a1, a2, a3, a4⟩ := h
  have u := (Upd.of_setCell (i := i * 2) (.int .i64 (-77)) a1).setCell (i := i * 2 + 1) (.int .i64 (-77))
  refine ⟨_, u.here, by simpa using a2, ?_, (a4.setCell (p := ⟨g, _, none⟩) (Nat.le_refl _) _).setCell (p := ⟨g, _, none⟩) (Nat.le_refl _) _⟩
  intro q hq hqi
  by_cases he : q = i
  · subst he
    rw [lentL_get L q (by omega) hq]
    refine ⟨?_, ?_⟩
    · rw [Array.getElem?_setIfInBounds_ne (by omega), show 2 * q = q * 2 by omega, Array.getElem?_setIfInBounds_self_of_lt (by omega)]
    · rw [show 2 * q + 1 = q * 2 + 1 by omega, Array.getElem?_setIfInBounds_self_of_lt (by simp; omega)]
  · rw [Array.getElem?_setIfInBounds_ne (by omega), Array.getElem?_setIfInBounds_ne (by omega), Array.getElem?_setIfInBounds_ne (by omega), Array.getElem?_setIfInBounds_ne (by omega)]
    exact a3 q hq (by omega)

theorem LeI.own {w wx : World} {L : List (Int × Int)} {g n : Nat} (h : LeI w wx L g n (n + 8)) (hn : L.length = n) (h4 : n ≤ 8796093022208) : OwnR wx g 62 2 (.slice (some ⟨g, 0, none⟩) (n + 8) (n + 8)) (n + 8) (acells (lentL L)) := by
  obtain ⟨cur, a1, a2, a3, a4⟩ := h
  refine ⟨by rw [acells_length, lentL_length, hn], Or.inr ⟨g, 0, n + 8, cur, rfl, Nat.le_refl _, a1, Nat.le_refl _, by unfold maxLen; omega, by omega, ?_⟩⟩
  rw [acells_iff]
  intro q hq
  rw [Nat.zero_add, Nat.zero_add]
  exact a3 q hq (by rw [lentL_length] at hq; omega)

set_option maxHeartbeats 1000000 in
theorem lent_any (L : List (Int × Int)) (n : Nat) (hn : L.length = n) (ao : Option Addr) (cap : Nat) (w : World) (h4 : n ≤ 8796093022208)
    (hA : L = [] ∨ ∃ g o, ao = some ⟨g, o, none⟩ ∧ g < w.heap.size ∧ ∀ j (hj : j < L.length), w.cell? ⟨g, o + j * 2, none⟩ = some (.int .i64 L[j].1) ∧ w.cell? ⟨g, o + j * 2 + 1, none⟩ = some (.int .i64 L[j].2)) :
    Calls Try.prog 24 #[.slice ao n cap] w fun e w' => e = .returned (.slice (some ⟨w.heap.size, 0, none⟩) (n + 8) (n + 8)) ∧ OwnR w' w.heap.size 62 2 (.slice (some ⟨w.heap.size, 0, none⟩) (n + 8) (n + 8)) (n + 8) (acells (lentL L)) ∧ Below w.heap.size w w' := by
  obtain ⟨i0, hi, hz0, hz1, hz2⟩ := info_parts Try.info62
  have HN : Hid (L.length = n) := hn
  obtain ⟨Z, hZ, hmk⟩ : ∃ Z : Array Value, Z.size = (n + 8) * 2 ∧ ∀ W : World, (Instr.makeSlice 52 (.int .i64 ((n : Int) + 8)) (.int .i64 ((n : Int) + 8))).run Try.prog W = .ok (.slice (some ⟨W.heap.size, 0, none⟩) (n + 8) (n + 8)) (W.alloc (.cells Z 62)) := by
    refine ⟨madeCells (Value.agg #[.int .i64 0, .int .i64 0]).cells ((n + 8) * 2), by rw [size_madeCells], fun W => ?_⟩
    have := run_make (P := Try.prog) W 52 62 i0 _ Try.underlying52 hi hz0 .i64 .i64 ((n : Int) + 8) ((n : Int) + 8) (by omega) (by omega) (by rw [hz2]; omega) (by omega)
    rw [hz1, show ((n : Int) + 8).toNat = n + 8 by omega] at this
    exact this
  have hnew := heap_alloc_new w (.cells Z 62 (0, 0))
  have hbel : Below w.heap.size w (w.alloc (.cells Z 62)) := (Below.refl _ w).alloc (Nat.le_refl _) _
  obtain ⟨w2, hcp, hL2⟩ : ∃ w2, (∀ ty, (Builtin.copy_ #[52, 52] ty #[.slice (some ⟨w.heap.size, 0, none⟩) (n + 8) (n + 8), .slice ao n cap]).run Try.prog (w.alloc (.cells Z 62)) = .ok (goInt n) w2) ∧ LeI w w2 L w.heap.size n n := by
    rcases hA with rfl | ⟨g, o, rfl, hg, hA⟩
    · have hn0 : n = 0 := by simpa using hn.symm
      subst hn0
      exact ⟨_, run_copy0 _ _ _ _ _ _ _, Z, hnew, hZ, fun q _ h => absurd h (by omega), hbel⟩
    · have hcell : ∀ j u, (acells L)[j]? = some u → (w.alloc (.cells Z 62)).cell? ((⟨g, o, none⟩ : Addr).add j) = some u := by
        intro j u hj
        rw [Addr.add_lit, hbel.cell (show g < _ from hg)]
        have hjl : j < L.length * 2 := by
          rcases Nat.lt_or_ge j (acells L).length with hh | hh
          · rwa [acells_length] at hh
          · rw [List.getElem?_eq_none hh] at hj; exact absurd hj (by simp)
        have hq : j / 2 < L.length := by omega
        have h1 := acells_at L (j / 2) hq
        have h2 := hA (j / 2) hq
        rcases (show j = 2 * (j / 2) ∨ j = 2 * (j / 2) + 1 by omega) with he | he
        · rw [he] at hj ⊢; rw [h1.1] at hj; rw [Nat.mul_comm, h2.1]; exact hj
        · rw [he] at hj ⊢; rw [h1.2] at hj; rw [show o + (2 * (j / 2) + 1) = o + j / 2 * 2 + 1 by omega, h2.2]; exact hj
      have hrun := run_copyA (w.alloc (.cells Z 62)) w.heap.size 0 (n + 8) (n + 8) ⟨g, o, none⟩ n cap (acells L) (by rw [acells_length, hn]) (by omega) hcell
        (fun j hj => by rw [acells_length] at hj; rw [cell_of_row _ _ _ Z 62 (0, 0) hnew]; simp; omega)
        (fun j hj => frozen_of_row _ _ _ _ _ hnew)
        (fun v hv => by
          unfold acells at hv
          simp only [List.mem_flatMap, List.mem_cons, List.not_mem_nil, or_false] at hv
          obtain ⟨x, _, rfl | rfl⟩ := hv <;> rfl)
      obtain ⟨cur', q1, q2, q3, q4⟩ := heap_setCells_same w.heap.size 62 (acells L) 0 (w.alloc (.cells Z 62)) Z hnew
      have ts := tape_setCells w.heap.size (acells L) 0 (w.alloc (.cells Z 62))
      refine ⟨_, hrun, cur', q1, q2.trans hZ, fun q hq hqn => ?_, ⟨ts.2.1, ts.1, ts.2.2.1, by rw [ts.2.2.2]; simp, fun j hj => ?_⟩⟩
      · have hqL : q < L.length := by omega
        have e : (lentL L)[q] = L[q] := by simp only [lentL]; rw [List.getElem_append_left hqL]
        have h1 := acells_at L q hqL
        have g1 := q4 (2 * q) _ h1.1 (by omega)
        have g2 := q4 (2 * q + 1) _ h1.2 (by omega)
        rw [Nat.zero_add] at g1 g2
        rw [e]; exact ⟨g1, g2⟩
      · rw [heap_setCells_other _ _ _ _ _ (by omega)]
        exact Below.heap_alloc _ _ _ hj
  have HL2 : Hid (LeI w w2 L w.heap.size n n) := hL2
  clear hn hA hL2 hnew hbel hZ
  go_enter Try.func24, Try.ntmps24
  go_wp2_with fail
  obtain ⟨g, hg⟩ : ∃ g, g = w.heap.size := ⟨_, rfl⟩
  rw [← hg] at HL2 ⊢
  have HG : Hid (g = w.heap.size) := hg
  clear hg hcp hmk
  go_loopw [4] (fun iv wx => ∃ i : Nat, n ≤ i ∧ i ≤ n + 8 ∧ iv = .int .i64 i ∧ LeI w wx L g n i) (fun iv _ => n + 8 - (intOf iv).toNat)
  case atStart => exact ⟨n, Nat.le_refl _, by omega, rfl, HL2.out⟩
  case round =>
    clear HL2
    obtain ⟨i, hi1, hi2, rfl, hI⟩ := hrel
    by_cases hlt : i < n + 8
    · have hltI : (i : Int) < ((n + 8 : Nat) : Int) := by omega
      have hltJ : (i : Int) < (n : Int) + 8 := by omega
      obtain ⟨cur, a1, a2, a3, a4⟩ := hI
      obtain ⟨y0, hy0⟩ : ∃ y, wr.cell? ⟨g, i * 2, none⟩ = some y := ⟨_, cell_at a1 (Array.getElem?_eq_getElem (by omega))⟩
      obtain ⟨y1, hy1⟩ : ∃ y, wr.cell? ⟨g, i * 2 + 1, none⟩ = some y := ⟨_, cell_at a1 (Array.getElem?_eq_getElem (by omega))⟩
      have f0 : wr.frozen? ⟨g, i * 2, none⟩ = false := frozen_of_row _ _ _ _ _ a1
      have f1 : wr.frozen? ⟨g, i * 2 + 1, none⟩ = false := frozen_of_row _ _ _ _ _ a1
      have HI : Hid (LeI w wr L g n i) := ⟨cur, a1, a2, a3, a4⟩
      clear a1 a2 a3 a4
      go_wp2_with fail
      go_roundw
      case rel => exact ⟨i + 1, by omega, by omega, by go_num, HI.out.step HN.out hi1 hlt⟩
      case measure => simp [intOf]; omega
    · have he : i = n + 8 := by omega
      subst he
      have HO : Hid (OwnR wr g 62 2 (.slice (some ⟨g, 0, none⟩) (n + 8) (n + 8)) (n + 8) (acells (lentL L))) := hI.own HN.out h4
      have HB : Hid (Below g w wr) := by obtain ⟨cur, a1, a2, a3, a4⟩ := hI; exact a4
      clear hI
      go_wp2_with fail
      go_ret
      rw [← HG.out]
      exact ⟨rfl, HO.out, HB.out⟩
end Go.Proofs.Ytilcmkiihefkkaa
