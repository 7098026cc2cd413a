import Derived.BigQuiet
import Derived.Deep.CutBlock
import Derived.Deep.DeepCutAuto
import Derived.Deep.QuietTactic
import Derived.Deep.RegionWith
import Derived.Laws.IdiomCopy
import Derived.Laws.StructEq
import Derived.Lib.QuietBelow
import Derived.Test.YtilcmkiihefkkabGreatDoorJk2
import Derived.Test.YtilcmkiihefkkabGreatDoorJk3
import Derived.Test.YtilcmkiihefkkabGreatDoorJk9
section
set_option linter.unusedVariables false
set_option linter.unusedSimpArgs false
namespace Go.Proofs.YtilcmkiihefkkabGreatDoor.Mn
open Go.RowKit
theorem Tryz.info140 : (Tryz.prog.info? 140).map (fun i => (i.zero, i.size, i.bytes)) = some (some (.agg #[.int .i64 0, .int .i64 0]), 2, 16) := by kernel_rfl
theorem info_parts {P : Program} {t : TypeId} {z : Option Value} {s b : Nat} (h : (P.info? t).map (fun i => (i.zero, i.size, i.bytes)) = some (z, s, b)) : ∃ i, P.info? t = some i ∧ i.zero = z ∧ i.size = s ∧ i.bytes = b := by
  cases hi : P.info? t with
  | none => rw [hi] at h; simp at h
  | some i => rw [hi] at h; simp at h; exact ⟨i, rfl, h.1, h.2.1, h.2.2⟩
theorem OwnR.shape {w : World} {base : Nat} {e : TypeId} {size : Nat} {v : Value} {n : Nat} {xs : List Value} (h : OwnR w base e size v n xs) : ∃ ao c, v = .slice ao n c := by
  rcases h.2 with ⟨rfl, rfl⟩ | ⟨g, o, cap, cur, rfl, _⟩
  · exact ⟨_, _, rfl⟩
  · exact ⟨_, _, rfl⟩
theorem belDrewN {B : Nat} {a w : World} (h : Below B a w) (n : Nat) : Below B a (w.drewN n) := ⟨h.os, h.tape, h.output, h.size, h.block⟩
theorem abox_cells (W : World) (x y : Value) (t : TypeId) (s : Nat) (hs : s = W.heap.size) : ∀ j u, ([x, y] : List Value)[j]? = some u → (W.alloc (.cells #[x, y] t)).cell? ((⟨s, 0, none⟩ : Addr).add j) = some u := by
  intro j u hj
  subst hs
  rw [Addr.add_lit, Nat.zero_add]
  refine cell_at (heap_alloc_new W _) ?_
  simpa using hj
theorem an_oneCell (x y : Int) : ∀ u ∈ ([.int .i64 x, .int .i64 y] : List Value), u.oneCell' = true := by
  intro u hu
  simp at hu
  rcases hu with rfl | rfl <;> rfl
end Go.Proofs.YtilcmkiihefkkabGreatDoor.Mn
end
section
set_option linter.unusedVariables false
set_option linter.unusedSimpArgs false
namespace Go.Proofs.YtilcmkiihefkkabGreatDoor.Mn
open Go.RowKit
/-- what Chain answers with an error -/
def badC (e : Int) : Ending := .returned (.tuple #[.slice none 0 0, .float .f64 0, .int .i64 e])
/-- numbers that may not be -/
def outB (x : Int × Int) : Bool := !(decide (0 ≤ x.1) && decide (x.1 ≤ 10000) && decide (0 ≤ x.2) && decide (x.2 ≤ 10000))
theorem outB_iff (x : Int × Int) : outB x = true ↔ ¬ okA x := by
  unfold outB okA
  simp only [Bool.not_eq_true', Bool.and_eq_false_iff, decide_eq_false_iff_not]
  omega
theorem outB_not (x : Int × Int) : outB x = false ↔ okA x := by
  unfold outB okA
  simp only [Bool.not_eq_false', Bool.and_eq_true, decide_eq_true_iff]
  omega
end Go.Proofs.YtilcmkiihefkkabGreatDoor.Mn
end
section
set_option linter.unusedVariables false
set_option linter.unusedSimpArgs false
namespace Go.Proofs.YtilcmkiihefkkabGreatDoor.Mn
open Go.RowKit
/-- one block may have turned, nothing else -/
structure OneB (w w' : World) (g : Nat) : Prop where
  os : w'.os = w.os
  tape : w'.tape = w.tape
  output : w'.output = w.output
  size : w'.heap.size = w.heap.size
  other : ∀ j, j ≠ g → w'.heap[j]? = w.heap[j]?
theorem OneB.refl (w : World) (g : Nat) : OneB w w g := ⟨rfl, rfl, rfl, rfl, fun _ _ => rfl⟩
theorem OneB.trans {a b c : World} {g : Nat} (h : OneB a b g) (k : OneB b c g) : OneB a c g :=
  ⟨k.os.trans h.os, k.tape.trans h.tape, k.output.trans h.output, k.size.trans h.size, fun j hj => (k.other j hj).trans (h.other j hj)⟩
theorem OneB.drewN {w w' : World} {g : Nat} (h : OneB w w' g) (n : Nat) : OneB w (w'.drewN n) g := ⟨h.os, h.tape, h.output, h.size, h.other⟩
theorem OneB.setCell {w w' : World} {g : Nat} (h : OneB w w' g) (i : Nat) (v : Value) : OneB w (w'.setCell ⟨g, i, none⟩ v) g :=
  ⟨h.os, h.tape, h.output, by simpa using h.size, fun j hj => (heap_setCell_other w' _ j v hj).trans (h.other j hj)⟩
theorem uniq_snoc : ∀ (l : List (Int × Int)) (a b : Int × Int), uniq (l ++ [a] ++ [b]) = if b = a then uniq (l ++ [a]) else uniq (l ++ [a]) ++ [b]
  | [], a, b => by
    show uniq [a, b] = if b = a then uniq [a] else uniq [a] ++ [b]
    unfold uniq
    by_cases h : a = b
    · subst h; simp [uniq]
    · have h' : ¬ b = a := fun e => h e.symm
      simp [h, h', uniq]
  | [c], a, b => by
    have ih := uniq_snoc [] a b
    simp only [List.nil_append] at ih
    show uniq (c :: a :: [b]) = if b = a then uniq (c :: [a]) else uniq (c :: [a]) ++ [b]
    unfold uniq
    have ih' : uniq (a :: [b]) = if b = a then uniq [a] else uniq [a] ++ [b] := ih
    rw [ih']
    by_cases h : c = a <;> by_cases h2 : b = a <;> simp [h, h2]
  | c :: d :: l, a, b => by
    have ih := uniq_snoc (d :: l) a b
    show uniq (c :: d :: (l ++ [a] ++ [b])) = if b = a then uniq (c :: d :: (l ++ [a])) else uniq (c :: d :: (l ++ [a])) ++ [b]
    have ih' : uniq (d :: (l ++ [a] ++ [b])) = if b = a then uniq (d :: (l ++ [a])) else uniq (d :: (l ++ [a])) ++ [b] := ih
    unfold uniq
    rw [ih']
    by_cases h : c = d <;> by_cases h2 : b = a <;> simp [h, h2]
theorem uniq_take (L : List (Int × Int)) (i : Nat) (h1 : 1 ≤ i) (h2 : i < L.length) : uniq (L.take (i + 1)) = if L[i] = L[i - 1] then uniq (L.take i) else uniq (L.take i) ++ [L[i]] := by
  obtain ⟨p, rfl⟩ : ∃ p, i = p + 1 := ⟨i - 1, by omega⟩
  rw [List.take_succ_eq_append_getElem h2, List.take_succ_eq_append_getElem (show p < L.length by omega)]
  exact uniq_snoc _ _ _
/-- Compact at work: k of the first i are kept -/
def CmI (L M : List (Int × Int)) (k i : Nat) : Prop := M.length = L.length ∧ k < i ∧ i ≤ L.length ∧ M.take k = uniq (L.take i) ∧ ∀ j (hj : j < L.length) (hm : j < M.length), i - 1 ≤ j → M[j] = L[j]
theorem CmI.skip {L M : List (Int × Int)} {k i : Nat} (h : CmI L M k i) (hi : i < L.length) (h1 : 1 ≤ i) (he : L[i] = L[i - 1]) : CmI L M k (i + 1) := by
  obtain ⟨a, b, c, d, e⟩ := h
  refine ⟨a, by omega, by omega, ?_, fun j hj hm h => e j hj hm (by omega)⟩
  rw [uniq_take L i h1 hi, if_pos he]; exact d
theorem CmI.keep {L M : List (Int × Int)} {k i : Nat} (h : CmI L M k i) (hi : i < L.length) (h1 : 1 ≤ i) (he : L[i] ≠ L[i - 1]) : CmI L (M.set k L[i]) (k + 1) (i + 1) := by
  obtain ⟨a, b, c, d, e⟩ := h
  refine ⟨by simpa using a, by omega, by omega, ?_, fun j hj hm h => ?_⟩
  · rw [uniq_take L i h1 hi, if_neg he, ← d, List.take_set, List.take_succ_eq_append_getElem (show k < M.length by omega), List.set_append_right _ _ (by simp; omega), List.length_take, Nat.min_eq_left (by omega), Nat.sub_self, List.set_cons_zero]
  · rw [List.getElem_set_ne (by omega)]
    exact e j hj _ (by omega)
theorem run_clearA (w : World) (b o m c cs : Nat) (cur : Array Value) (hb : w.heap[b]? = some (.cells cur 170 (0, 0))) (hs : o + (m + 1) * 2 ≤ cur.size) :
    ∃ vs : List Value, ∀ ty, (Builtin.clear_ #[211] ty #[.slice (some ⟨b, o, none⟩) (m + 1) c]).run Tryz.prog w = .ok (.tuple #[]) (w.setCells b o vs) := by
  refine ⟨(Builtin.zeroCells (Value.agg #[.int .i64 0, .int .i64 0]).cells (m + 1)).toList, fun ty => ?_⟩
  have hl : (Builtin.zeroCells (Value.agg #[.int .i64 0, .int .i64 0]).cells (m + 1)).toList.length = (m + 1) * 2 := by
    rw [Array.length_toList, size_zeroCells]; rfl
  have hst := run_storeCells_cells (P := Tryz.prog) b o (Builtin.zeroCells (Value.agg #[.int .i64 0, .int .i64 0]).cells (m + 1)).toList 0 w
    (fun j hj => by rw [cell_of_row w b _ cur 170 (0, 0) hb]; simp; omega)
    (fun j hj => frozen_of_row w b _ cur 170 hb)
    (fun v hv => by
      simp only [Builtin.zeroCells, Array.toList_map, List.mem_map] at hv
      obtain ⟨a, _, rfl⟩ := hv
      have : a % 2 = 0 ∨ a % 2 = 1 := by omega
      rcases this with h | h
      · show ((#[Value.int .i64 0, Value.int .i64 0] : Array Value)[a % 2]!).oneCell' = true
        rw [h]; rfl
      · show ((#[Value.int .i64 0, Value.int .i64 0] : Array Value)[a % 2]!).oneCell' = true
        rw [h]; rfl)
  simp only [Nat.add_zero] at hst
  have hv := Tryz.zeroValue170
  simp [Builtin.clear_, run_underlying Tryz.underlying211, hv, hst]
theorem OwnR.cut {w w' : World} {base g o n cap m : Nat} {t : TypeId} {M U : List (Int × Int)} (h : OwnR w base t 2 (.slice (some ⟨g, o, none⟩) n cap) n (acells M)) (hM : M.length = n) (hm : m ≤ n) (hU : M.take m = U)
    (hg : ∀ cur : Array Value, w.heap[g]? = some (.cells cur t (0, 0)) → ∃ cur' : Array Value, w'.heap[g]? = some (.cells cur' t (0, 0)) ∧ cur'.size = cur.size ∧ ∀ j, j < o + m * 2 → cur'[j]? = cur[j]?) :
    OwnR w' base t 2 (.slice (some ⟨g, o, none⟩) m cap) m (acells U) := by
  obtain ⟨h0, h⟩ := h
  rcases h with ⟨h, _⟩ | ⟨g', o', cap', cur, he, h1, h2, h3, h4, h5, h6⟩
  · simp at h
  · simp only [Value.slice.injEq, Option.some.injEq, Addr.mk.injEq, and_true, true_and] at he
    obtain ⟨⟨rfl, rfl⟩, rfl⟩ := he
    obtain ⟨cur', k1, k2, k3⟩ := hg cur h2
    have hUl : U.length = m := by rw [← hU, List.length_take]; omega
    refine ⟨by rw [acells_length, hUl], Or.inr ⟨g, o, cap, cur', rfl, h1, k1, by omega, h4, by omega, ?_⟩⟩
    rw [acells_iff] at h6 ⊢
    intro q hq
    have hq2 : q < M.length := by omega
    have := h6 q hq2
    have e : U[q] = M[q] := by simp only [← hU]; rw [List.getElem_take]
    rw [e, k3 _ (by omega), k3 _ (by omega)]
    exact this
set_option maxRecDepth 100000 in
set_option maxHeartbeats 2000000 in
theorem compact_any (L : List (Int × Int)) (n : Nat) (hn : L.length = n) (h1 : 1 ≤ n) (h2 : n ≤ 400) (base g o cap : Nat) (w : World) (hown : OwnR w base 170 2 (.slice (some ⟨g, o, none⟩) n cap) n (acells L)) :
    Calls Tryz.prog 121 #[.slice (some ⟨g, o, none⟩) n cap] w fun e w' => e = .returned (.slice (some ⟨g, o, none⟩) (uniq L).length cap) ∧ OwnR w' base 170 2 (.slice (some ⟨g, o, none⟩) (uniq L).length cap) (uniq L).length (acells (uniq L)) ∧ OneB w w' g := by
  have HN : Hid (L.length = n) := hn
  have HOWN : Hid (OwnR w base 170 2 (.slice (some ⟨g, o, none⟩) n cap) n (acells L)) := hown
  have HU : Hid (uniq (L.take 1) = L.take 1) := by
    show _ = _
    cases L with
    | nil => rfl
    | cons a t => rfl
  have hcapn : n ≤ cap := by
    rcases hown.2 with ⟨h, _⟩ | ⟨g', o', cap', cur, he, _, _, h3, _⟩
    · simp at h
    · simp only [Value.slice.injEq] at he
      omega
  clear hn hown
  by_cases hn1 : n = 1
  · subst hn1
    have hUL : uniq L = L := by
      have := HU.out
      rwa [List.take_of_length_le (by rw [HN.out]; exact Nat.le_refl _)] at this
    rw [hUL, HN.out]
    go_enter Tryz.func121, Tryz.ntmps121
    go_wp2_with fail
    go_ret
    exact ⟨rfl, HOWN.out, OneB.refl _ _⟩
  · have hnI : ¬ ((n : Int) < 2) := by omega
    go_enter Tryz.func121, Tryz.ntmps121
    go_wp2_with fail
    go_loopw [3] (fun kv wx => ∃ k : Nat, 1 ≤ k ∧ k ≤ n ∧ kv = .int .i64 k ∧ Hid (uniq (L.take k) = L.take k) ∧ ∃ q, wx = w.drewN q) (fun kv _ => n - (RowKit.intOf kv).toNat)
    case atStart => exact ⟨1, by omega, h1, rfl, HU.out, 0, rfl⟩
    case round =>
      obtain ⟨k, hk1, hk2, rfl, HK, q, rfl⟩ := hrel
      by_cases hlt : k < n
      · have hltI : (k : Int) < n := by omega
        have hLk : k < L.length := by rw [HN.out]; exact hlt
        obtain ⟨p, rfl⟩ : ∃ p, k = p + 1 := ⟨k - 1, by omega⟩
        have ca := HOWN.out.ans (p + 1) hLk
        have cb := HOWN.out.ans p (by omega)
        obtain ⟨x, hx⟩ : ∃ x, x = L[p + 1] := ⟨_, rfl⟩
        obtain ⟨y, hy⟩ : ∃ y, y = L[p]'(by omega) := ⟨_, rfl⟩
        have HXY : Hid (x = L[p + 1] ∧ y = L[p]'(by omega)) := ⟨hx, hy⟩
        rw [← hx] at ca
        rw [← hy] at cb
        obtain ⟨xr, xp⟩ := x
        obtain ⟨yr, yp⟩ := y
        obtain ⟨a1, a2⟩ := ca
        obtain ⟨b1, b2⟩ := cb
        simp only at a1 a2 b1 b2
        have hpI : (p : Int) < n := by omega
        have hpJ : ((p + 1 : Nat) : Int) - 1 = p := by omega
        clear hx hy
        by_cases e1 : xr = yr
        · by_cases e2 : xp = yp
          · subst e1 e2
            go_wp2_with fail
            go_quiet (fail)
            go_wp2_with fail
            have HC0 : Hid (CmI L L (p + 1) (p + 1 + 1)) := by
              refine ⟨rfl, by omega, by omega, ?_, fun _ _ _ _ => rfl⟩
              rw [uniq_take L (p + 1) (by omega) hLk, if_pos, HK.out]
              simp only [Nat.add_sub_cancel]
              rw [← HXY.out.1, ← HXY.out.2]
            go_loopw [3, 5] (fun kv k2v wx => ∃ (k k2 : Nat) (M : List (Int × Int)), kv = .int .i64 k ∧ k2v = .int .i64 k2 ∧ 1 ≤ k2 ∧ p + 1 + k2 ≤ n ∧ CmI L M k (p + 1 + k2) ∧ OwnR wx base 170 2 (.slice (some ⟨g, o, none⟩) n cap) n (acells M) ∧ OneB w wx g) (fun _ k2v _ => n - (RowKit.intOf k2v).toNat)
            case atStart => exact ⟨p + 1, 1, L, rfl, rfl, by omega, by omega, HC0.out, HOWN.out.other (fun _ _ _ => rfl), (OneB.refl _ _).drewN _⟩
            case round =>
              obtain ⟨k, k2, M, rfl, rfl, hk2a, hk2b, hCm, hownM, hone⟩ := hrel
              clear HC0 a1 a2 b1 b2
              have hkn : k < n := by have := hCm.2.1; omega
              have hML : M.length = n := hCm.1.trans HN.out
              obtain ⟨cur, hgc, hgs⟩ : ∃ cur, wr.heap[g]? = some (.cells cur 170 (0, 0)) ∧ o + n * 2 ≤ cur.size := by
                rcases hownM.2 with ⟨h, _⟩ | ⟨g2, o2, cap2, cur, h, _, h2, h3, _, h5, _⟩
                · simp at h
                · simp only [Value.slice.injEq, Option.some.injEq, Addr.mk.injEq, and_true, true_and] at h
                  obtain ⟨⟨rfl, rfl⟩, rfl⟩ := h
                  exact ⟨cur, h2, Nat.le_trans (Nat.add_le_add_left (Nat.mul_le_mul_right 2 h3) _) h5⟩
              by_cases hl2 : p + 1 + k2 < n
              · obtain ⟨m, rfl⟩ : ∃ m, k2 = m + 1 := ⟨k2 - 1, by omega⟩
                have hi1 : p + 1 + (m + 1) < L.length := by rw [HN.out]; exact hl2
                have ca := hownM.ans (p + 1 + (m + 1)) (by omega)
                have cb := hownM.ans (p + 1 + m) (by omega)
                rw [hCm.2.2.2.2 _ hi1 (by omega) (by omega)] at ca
                rw [hCm.2.2.2.2 _ (by omega) (by omega) (by omega)] at cb
                obtain ⟨u, hu⟩ : ∃ x, x = L[p + 1 + (m + 1)] := ⟨_, rfl⟩
                obtain ⟨v, hv⟩ : ∃ y, y = L[p + 1 + m]'(by omega) := ⟨_, rfl⟩
                have HUV : Hid (L[p + 1 + (m + 1)] = u ∧ L[p + 1 + m]'(by omega) = v) := ⟨hu.symm, hv.symm⟩
                rw [← hu] at ca
                rw [← hv] at cb
                obtain ⟨ur, up⟩ := u
                obtain ⟨vr, vp⟩ := v
                obtain ⟨a1, a2⟩ := ca
                obtain ⟨b1, b2⟩ := cb
                simp only at a1 a2 b1 b2
                rw [show o + (p + 1 + (m + 1)) * 2 = o + (p + 1) * 2 + (m + 1) * 2 by omega] at a1 a2
                rw [show o + (p + 1 + m) * 2 = o + (p + 1) * 2 + m * 2 by omega] at b1 b2
                obtain ⟨y0, hy0⟩ : ∃ y, wr.cell? ⟨g, o + k * 2, none⟩ = some y := ⟨_, cell_at hgc (Array.getElem?_eq_getElem (by omega))⟩
                obtain ⟨y1, hy1⟩ : ∃ y, wr.cell? ⟨g, o + k * 2 + 1, none⟩ = some y := ⟨_, cell_at hgc (Array.getElem?_eq_getElem (by omega))⟩
                have f0 : wr.frozen? ⟨g, o + k * 2, none⟩ = false := frozen_of_row _ _ _ _ _ hgc
                have f1 : wr.frozen? ⟨g, o + k * 2 + 1, none⟩ = false := frozen_of_row _ _ _ _ _ hgc
                have HSET : Hid (OwnR ((wr.setCell ⟨g, o + k * 2, none⟩ (.int .i64 ur)).setCell ⟨g, o + k * 2 + 1, none⟩ (.int .i64 up)) base 170 2 (.slice (some ⟨g, o, none⟩) n cap) n (acells (M.set k (ur, up)))) := hownM.setA hML k hkn (ur, up)
                have HCM : Hid (CmI L M k (p + 1 + (m + 1))) := hCm
                have HML : Hid (M.length = n) := hML
                have HOM : Hid (OwnR wr base 170 2 (.slice (some ⟨g, o, none⟩) n cap) n (acells M)) := hownM
                have HONE : Hid (OneB w wr g) := hone
                have hmI : (m : Int) < ((n - (p + 1) : Nat) : Int) := by omega
                have hm1I : ((m + 1 : Nat) : Int) < ((n - (p + 1) : Nat) : Int) := by omega
                have hmJ : ((m + 1 : Nat) : Int) - 1 = m := by omega
                have hkI : (k : Int) < n := by omega
                clear hu hv hCm hownM hone hgc hgs
                by_cases g1 : ur = vr
                · by_cases g2 : up = vp
                  · subst g1 g2
                    go_wp2_with fail
                    go_quiet (fail)
                    go_wp2_with fail
                    go_roundw
                    case rel =>
                      exact ⟨k, m + 1 + 1, M, rfl, by go_num, by omega, by omega, HCM.out.skip hi1 (by omega) (by have h1 := HUV.out.1; have h2 := HUV.out.2; rw [h1]; exact h2.symm), HOM.out.other (fun _ _ _ => rfl), HONE.out.drewN _⟩
                    case measure => simp [RowKit.intOf]; omega
                  · subst g1
                    go_wp2_with fail
                    go_quiet (fail)
                    go_wp2_with fail
                    go_roundw
                    case rel =>
                      refine ⟨k + 1, m + 1 + 1, M.set k (ur, up), by go_num, by go_num, by omega, by omega, ?_, OwnR.setA (HOM.out.other (w' := wr.drewN nq) (fun _ _ _ => rfl)) HML.out k hkn (ur, up), ((HONE.out.drewN _).setCell _ _).setCell _ _⟩
                      have := HCM.out.keep hi1 (by omega) (by
                        have h1 := HUV.out.1; have h2 := HUV.out.2
                        rw [h1]
                        intro h
                        exact g2 (Prod.mk.inj (h.trans h2)).2)
                      rw [HUV.out.1] at this
                      exact this
                    case measure => simp [RowKit.intOf]; omega
                · go_wp2_with fail
                  go_quiet (fail)
                  go_wp2_with fail
                  go_roundw
                  case rel =>
                    refine ⟨k + 1, m + 1 + 1, M.set k (ur, up), by go_num, by go_num, by omega, by omega, ?_, OwnR.setA (HOM.out.other (w' := wr.drewN nq) (fun _ _ _ => rfl)) HML.out k hkn (ur, up), ((HONE.out.drewN _).setCell _ _).setCell _ _⟩
                    have := HCM.out.keep hi1 (by omega) (by
                      have h1 := HUV.out.1; have h2 := HUV.out.2
                      rw [h1]
                      intro h
                      exact g1 (Prod.mk.inj (h.trans h2)).1)
                    rw [HUV.out.1] at this
                    exact this
                  case measure => simp [RowKit.intOf]; omega
              · obtain ⟨mm, hmm⟩ : ∃ mm, n - k = mm + 1 := ⟨n - k - 1, by omega⟩
                obtain ⟨vs, hclr⟩ := run_clearA wr g (o + k * 2) mm (cap - k) 0 cur hgc (by omega)
                rw [← hmm] at hclr
                have hend : p + 1 + k2 = n := by omega
                have hUk : M.take k = uniq L := by
                  rw [hCm.2.2.2.1, List.take_of_length_le (by rw [HN.out]; omega)]
                have hUl : (uniq L).length = k := by rw [← hUk, List.length_take]; omega
                have HFIN : Hid (OwnR (wr.setCells g (o + k * 2) vs) base 170 2 (.slice (some ⟨g, o, none⟩) (uniq L).length cap) (uniq L).length (acells (uniq L))) := by
                  rw [hUl]
                  refine hownM.cut hML (by omega) hUk (fun cur2 hc2 => ?_)
                  obtain ⟨cur', q1, q2, q3, _⟩ := heap_setCells_same g 170 vs (o + k * 2) wr cur2 hc2
                  exact ⟨cur', q1, q2, q3⟩
                have HONE : Hid (OneB w (wr.setCells g (o + k * 2) vs) g) := by
                  have ts := tape_setCells g vs (o + k * 2) wr
                  exact hone.trans ⟨ts.2.1, ts.1, ts.2.2.1, ts.2.2.2, fun j hj => heap_setCells_other g vs _ wr j hj⟩
                have HUL : Hid ((uniq L).length = k) := hUl
                have hkI : (k : Int) ≤ n := by omega
                clear hCm hownM hone hgc hgs hUk hUl hmm
                go_wp2_with fail
                go_ret
                refine ⟨?_, HFIN.out, HONE.out⟩
                rw [HUL.out]
                rfl
          · subst e1
            go_wp2_with fail
            go_quiet (fail)
            go_wp2_with fail
            go_roundw
            case rel =>
              refine ⟨p + 1 + 1, by omega, by omega, by go_num, ?_, _, rfl⟩
              show _ = _
              rw [uniq_take L (p + 1) (by omega) hLk, if_neg, HK.out, List.take_succ_eq_append_getElem hLk]
              simp only [Nat.add_sub_cancel]
              rw [← HXY.out.1, ← HXY.out.2]
              intro h; exact e2 (Prod.mk.inj h).2
            case measure => simp [RowKit.intOf]; omega
        · go_wp2_with fail
          go_quiet (fail)
          go_wp2_with fail
          go_roundw
          case rel =>
            refine ⟨p + 1 + 1, by omega, by omega, by go_num, ?_, _, rfl⟩
            show _ = _
            rw [uniq_take L (p + 1) (by omega) hLk, if_neg, HK.out, List.take_succ_eq_append_getElem hLk]
            simp only [Nat.add_sub_cancel]
            rw [← HXY.out.1, ← HXY.out.2]
            intro h; exact e1 (Prod.mk.inj h).1
          case measure => simp [RowKit.intOf]; omega
      · have hke : k = n := by omega
        subst hke
        have hUL : uniq L = L := by
          have := HK.out
          rwa [List.take_of_length_le (by rw [HN.out]; exact Nat.le_refl _)] at this
        go_wp2_with fail
        go_ret
        rw [hUL, HN.out]
        exact ⟨rfl, HOWN.out.other (fun _ _ _ => rfl), (OneB.refl _ _).drewN _⟩
end Go.Proofs.YtilcmkiihefkkabGreatDoor.Mn
end
section
set_option linter.unusedVariables false
set_option linter.unusedSimpArgs false
namespace Go.Proofs.YtilcmkiihefkkabGreatDoor.Mn
open Go.RowKit
theorem Tryz.info3 : (Tryz.prog.info? 3).map (fun i => (i.zero, i.size, i.bytes)) = some (some (.int .i64 0), 1, 8) := by kernel_rfl
/-- the two rows of numbers: the first i links are there -/
def DpR (wr : World) (gs n i : Nat) (T : List Lk) : Prop := ∃ cs ca : Array Value, wr.heap[gs]? = some (.cells cs 3 (0, 0)) ∧ wr.heap[gs + 1]? = some (.cells ca 3 (0, 0)) ∧ cs.size = n ∧ ca.size = n ∧ ∀ j, j < i → cs[j]? = some (.int .i64 (T.getD j Lk0).q) ∧ ca[j]? = some (.int .i64 (T.getD j Lk0).p)
/-- and the one at hand -/
def DpX (wr : World) (gs n i : Nat) (T : List Lk) (q p : Int) : Prop := ∃ cs ca : Array Value, wr.heap[gs]? = some (.cells cs 3 (0, 0)) ∧ wr.heap[gs + 1]? = some (.cells ca 3 (0, 0)) ∧ cs.size = n ∧ ca.size = n ∧ (∀ j, j < i → cs[j]? = some (.int .i64 (T.getD j Lk0).q) ∧ ca[j]? = some (.int .i64 (T.getD j Lk0).p)) ∧ cs[i]? = some (.int .i64 q) ∧ ca[i]? = some (.int .i64 p)
theorem DpX.r {wr : World} {gs n i : Nat} {T : List Lk} {q p : Int} (h : DpX wr gs n i T q p) : DpR wr gs n i T := by
  obtain ⟨cs, ca, h1, h2, h3, h4, h5, _⟩ := h
  exact ⟨cs, ca, h1, h2, h3, h4, h5⟩
theorem DpR.set {wr : World} {gs n i : Nat} {T : List Lk} (h : DpR wr gs n i T) (hi : i < n) (q p : Int) : DpX ((wr.setCell ⟨gs, i, none⟩ (.int .i64 q)).setCell ⟨gs + 1, i, none⟩ (.int .i64 p)) gs n i T q p := by
  obtain ⟨cs, ca, h1, h2, h3, h4, h5⟩ := h
  have u1 := Upd.of_setCell (i := i) (.int .i64 q) h1
  have h2' : (wr.setCell ⟨gs, i, none⟩ (.int .i64 q)).heap[gs + 1]? = some (.cells ca 3 (0, 0)) := (u1.other _ (by omega)).trans h2
  have u2 := Upd.of_setCell (i := i) (.int .i64 p) h2'
  refine ⟨_, _, (u2.other gs (by omega)).trans u1.here, u2.here, by simpa using h3, by simpa using h4, ?_, ?_, ?_⟩
  · intro j hj
    rw [Array.getElem?_setIfInBounds_ne (by omega), Array.getElem?_setIfInBounds_ne (by omega)]
    exact h5 j hj
  · rw [Array.getElem?_setIfInBounds_self_of_lt (by omega)]
  · rw [Array.getElem?_setIfInBounds_self_of_lt (by omega)]
theorem DpX.next {wr : World} {gs n i : Nat} {T : List Lk} {q p : Int} (h : DpX wr gs n i T q p) (hq : (T.getD i Lk0).q = q) (hp : (T.getD i Lk0).p = p) : DpR wr gs n (i + 1) T := by
  obtain ⟨cs, ca, h1, h2, h3, h4, h5, h6, h7⟩ := h
  refine ⟨cs, ca, h1, h2, h3, h4, fun j hj => ?_⟩
  by_cases he : j = i
  · subst he; rw [hq, hp]; exact ⟨h6, h7⟩
  · exact h5 j (by omega)
theorem DpX.other {wr wx : World} {gs n i : Nat} {T : List Lk} {q p : Int} (h : DpX wr gs n i T q p) (h1 : wx.heap[gs]? = wr.heap[gs]?) (h2 : wx.heap[gs + 1]? = wr.heap[gs + 1]?) : DpX wx gs n i T q p := by
  obtain ⟨cs, ca, a1, a2, h3⟩ := h
  exact ⟨cs, ca, h1.trans a1, h2.trans a2, h3⟩
theorem DpX.lt {wr : World} {gs n i : Nat} {T : List Lk} {q p : Int} (h : DpX wr gs n i T q p) : gs + 1 < wr.heap.size := by
  obtain ⟨cs, ca, a1, a2, h3⟩ := h
  exact lt_of_block a2
theorem DpR.lt {wr : World} {gs n i : Nat} {T : List Lk} (h : DpR wr gs n i T) : gs + 1 < wr.heap.size := by
  obtain ⟨cs, ca, a1, a2, h3⟩ := h
  exact lt_of_block a2
theorem DpR.cells {wr : World} {gs n i : Nat} {T : List Lk} (h : DpR wr gs n i T) (j : Nat) (hj : j < i) : wr.cell? ⟨gs, j, none⟩ = some (.int .i64 (T.getD j Lk0).q) ∧ wr.cell? ⟨gs + 1, j, none⟩ = some (.int .i64 (T.getD j Lk0).p) := by
  obtain ⟨cs, ca, h1, h2, h3, h4, h5⟩ := h
  exact ⟨cell_at h1 (h5 j hj).1, cell_at h2 (h5 j hj).2⟩
theorem DpX.here {wr : World} {gs n i : Nat} {T : List Lk} {q p : Int} (h : DpX wr gs n i T q p) : wr.cell? ⟨gs, i, none⟩ = some (.int .i64 q) ∧ wr.cell? ⟨gs + 1, i, none⟩ = some (.int .i64 p) := by
  obtain ⟨cs, ca, h1, h2, h3, h4, h5, h6, h7⟩ := h
  exact ⟨cell_at h1 h6, cell_at h2 h7⟩
theorem DpR.any {wr : World} {gs n i : Nat} {T : List Lk} (h : DpR wr gs n i T) (j : Nat) (hj : j < n) : (∃ y, wr.cell? ⟨gs, j, none⟩ = some y) ∧ (∃ y, wr.cell? ⟨gs + 1, j, none⟩ = some y) ∧ wr.frozen? ⟨gs, j, none⟩ = false ∧ wr.frozen? ⟨gs + 1, j, none⟩ = false := by
  obtain ⟨cs, ca, h1, h2, h3, h4, h5⟩ := h
  exact ⟨⟨_, cell_at h1 (Array.getElem?_eq_getElem (by omega))⟩, ⟨_, cell_at h2 (Array.getElem?_eq_getElem (by omega))⟩, frozen_of_row _ _ _ _ _ h1, frozen_of_row _ _ _ _ _ h2⟩
theorem bk_more (T : List Lk) (n : Nat) (hT : ∀ i, i < n → (T.getD i Lk0).p < i) (f : Nat) (p : Int) (h1 : p < n) (h2 : p < f) : ∀ d, f ≤ d → bk T d p = bk T f p := by
  intro d hd
  induction d with
  | zero => have : f = 0 := by omega
            subst this; rfl
  | succ d ih =>
    by_cases he : f = d + 1
    · rw [he]
    · rw [bk_fuel T n hT d p h1 (by omega)]
      exact ih (by omega)
theorem qtr_ge (x y : Int × Int) (k : Int) (hx : okA x) (hy : okA y) (hf : fol x y) (hk : 1 ≤ k) : -20000 ≤ qtr x y k := by
  obtain ⟨a1, a2, a3, a4⟩ := hx
  obtain ⟨b1, b2, b3, b4⟩ := hy
  obtain ⟨f1, f2⟩ := hf
  have h : (apt (y.2 - x.2) (y.1 - x.1)).toNat < 1048576 := by unfold apt; omega
  have := bitLen_le20 _ h
  unfold qtr
  have e1 : 1 ≤ lst (y.2 - x.2) (y.1 - x.1) k := by unfold lst; omega
  have e2 : apt (y.2 - x.2) (y.1 - x.1) ≤ 10000 := by unfold apt; omega
  omega
end Go.Proofs.YtilcmkiihefkkabGreatDoor.Mn
end
