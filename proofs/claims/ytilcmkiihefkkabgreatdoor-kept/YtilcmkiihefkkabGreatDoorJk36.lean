import Derived.BigQuiet
import Derived.Deep.QuietTactic
import Derived.Deep.RegionWith
import Derived.Test.YtilcmkiihefkkabGreatDoorJk17
import Derived.Test.YtilcmkiihefkkabGreatDoorJk33
section
set_option linter.unusedVariables false
set_option linter.unusedSimpArgs false
namespace Go.Proofs.YtilcmkiihefkkabGreatDoor.Mn
open Go.RowKit Go.Shelf Go.Lib
set_option maxHeartbeats 400000 in
theorem isNaNf (q : Int) (hq : q.natAbs < 2 ^ 53) (w : World) :
    Calls Tryz.prog 133 #[.float .f64 (fq q)] w fun e w' => e = .returned (.bool false) ∧ w' = w := by
  have ho : FloatKind.f64.format.order (fq q) (fq q) = some .eq := by
    have := order_fq q q hq hq
    rw [show compare q q = .eq by simp [compare, compareOfLessAndEq]] at this
    exact this
  go_enter Tryz.func133, Tryz.ntmps133
  go_wp2
  go_ret
  exact ⟨by first | rfl | (rw [ho]; rfl) | simp [ho], rfl⟩
/-- how two numbers stand -/
def cmpI (a b : Int) : Int := if a < b then -1 else if b < a then 1 else 0
set_option maxHeartbeats 400000 in
theorem compareF (q r : Int) (hq : q.natAbs < 2 ^ 53) (hr : r.natAbs < 2 ^ 53) (w : World) :
    Calls Tryz.prog 91 #[.float .f64 (fq q), .float .f64 (fq r)] w fun e w' => e = .returned (.int .i64 (cmpI q r)) ∧ w' = w := by
  have n1 := isNaNf q hq
  have n2 := isNaNf r hr
  have ho : FloatKind.f64.format.order (fq q) (fq r) = some (compare q r) := order_fq q r hq hr
  rcases Int.lt_trichotomy q r with h | h | h
  · have hc : compare q r = .lt := by simp [compare, compareOfLessAndEq, h]
    have e : cmpI q r = -1 := by unfold cmpI; rw [if_pos h]
    rw [hc] at ho
    rw [e]
    clear hq hr h hc e
    generalize fq q = x at *
    generalize fq r = y at *
    have nA : ∀ z, (z = x ∨ z = y) → ∀ w, Calls Tryz.prog 133 #[.float .f64 z] w fun e w' => e = .returned (.bool false) ∧ w' = w := by
      rintro z (rfl | rfl)
      · exact n1
      · exact n2
    clear n1 n2
    go_enter Tryz.func91, Tryz.ntmps91
    go_wp2_with (go_at_call 133; (refine (nA _ (by first | exact Or.inl rfl | exact Or.inr rfl) _).mono ?_; rintro e w' ⟨rfl, rfl⟩))
    go_ret
    exact ⟨rfl, rfl⟩
  · subst h
    have hc : compare q q = .eq := by simp [compare, compareOfLessAndEq]
    have e : cmpI q q = 0 := by unfold cmpI; rw [if_neg (by omega), if_neg (by omega)]
    rw [hc] at ho
    rw [e]
    clear hq hr hc e n2
    generalize fq q = x at *
    go_enter Tryz.func91, Tryz.ntmps91
    go_wp2_with (go_at_call 133; (refine (n1 _).mono ?_; rintro e w' ⟨rfl, rfl⟩))
    go_ret
    exact ⟨rfl, rfl⟩
  · have hc : compare q r = .gt := by
      have h1 : ¬ q < r := by omega
      have h2 : ¬ q = r := by omega
      simp [compare, compareOfLessAndEq, h1, h2]
    have e : cmpI q r = 1 := by unfold cmpI; rw [if_neg (by omega), if_pos h]
    rw [hc] at ho
    rw [e]
    clear hq hr h hc e
    generalize fq q = x at *
    generalize fq r = y at *
    have nA : ∀ z, (z = x ∨ z = y) → ∀ w, Calls Tryz.prog 133 #[.float .f64 z] w fun e w' => e = .returned (.bool false) ∧ w' = w := by
      rintro z (rfl | rfl)
      · exact n1
      · exact n2
    clear n1 n2
    go_enter Tryz.func91, Tryz.ntmps91
    go_wp2_with (go_at_call 133; (refine (nA _ (by first | exact Or.inl rfl | exact Or.inr rfl) _).mono ?_; rintro e w' ⟨rfl, rfl⟩))
    go_ret
    exact ⟨rfl, rfl⟩
theorem compareI_eq (a b : Int) : Lib.compareInt a b = cmpI a b := by
  unfold Lib.compareInt cmpI
  rfl
set_option maxHeartbeats 400000 in
theorem mayFollow_any (a b : Int × Int) (w : World) :
    Calls Tryz.prog 122 #[.agg #[.int .i64 a.1, .int .i64 a.2], .agg #[.int .i64 b.1, .int .i64 b.2]] w fun e w' => e = .returned (.bool (folB b a)) ∧ Below w.heap.size w w' := by
  obtain ⟨ar, ap⟩ := a
  obtain ⟨br, bp⟩ := b
  have al : ∀ (o p : Obj), Below w.heap.size w ((w.alloc o).alloc p) := fun o p => ((Below.refl _ w).alloc (Nat.le_refl _) o).alloc (by simp) p
  by_cases h1 : bp < ap
  · have HC : Hid (decide (br < ar) = folB (br, bp) (ar, ap)) := by
      show _ = _
      unfold folB; simp [h1]
    go_enter Tryz.func122, Tryz.ntmps122
    go_wp2
    go_ret
    exact ⟨congrArg (fun b => Ending.returned (.bool b)) HC.out, al _ _⟩
  · have HC : Hid (false = folB (br, bp) (ar, ap)) := by
      show _ = _
      unfold folB; simp [h1]
    go_enter Tryz.func122, Tryz.ntmps122
    go_wp2
    go_ret
    exact ⟨congrArg (fun b => Ending.returned (.bool b)) HC.out, al _ _⟩
set_option maxHeartbeats 400000 in
theorem outOfBounds_any (x : Int × Int) (w : World) :
    Calls Tryz.prog 118 #[.agg #[.int .i64 x.1, .int .i64 x.2]] w fun e w' => e = .returned (.bool (outB x)) ∧ Below w.heap.size w w' := by
  obtain ⟨r, p⟩ := x
  have al : ∀ (o : Obj), Below w.heap.size w (w.alloc o) := fun o => ((Below.refl _ w).alloc (Nat.le_refl _) o)
  by_cases h1 : min r p < 0
  · have HC : Hid (true = outB (r, p)) := by
      show _ = _
      symm
      rw [outB_iff]
      unfold okA; simp only; omega
    go_enter Tryz.func118, Tryz.ntmps118
    go_wp2
    go_ret
    exact ⟨congrArg (fun b => Ending.returned (.bool b)) HC.out, al _⟩
  · have HC : Hid (decide (10000 < max r p) = outB (r, p)) := by
      show _ = _
      rw [Bool.eq_iff_iff, decide_eq_true_iff, outB_iff]
      unfold okA; simp only; omega
    go_enter Tryz.func118, Tryz.ntmps118
    go_wp2
    go_ret
    exact ⟨congrArg (fun b => Ending.returned (.bool b)) HC.out, al _⟩
/-- what Compare tells of two anchors -/
def cfA (a b : Int × Int) : Int := if cmpI a.2 b.2 = 0 then cmpI a.1 b.1 else cmpI a.2 b.2
theorem cfA_lt (a b : Int × Int) : decide (cfA a b < 0) = befB a b := by
  rw [Bool.eq_iff_iff, decide_eq_true_iff, befB_iff]
  unfold cfA cmpI bef
  split <;> split <;> (try split) <;> (try split) <;> omega
set_option maxHeartbeats 400000 in
theorem cmpOr_any (x y : Int) (b : Nat) (w : World) (h1 : w.cell? ⟨b, 0, none⟩ = some (.int .i64 x)) (h2 : w.cell? ⟨b, 1, none⟩ = some (.int .i64 y)) (z : Int) (hz : z = if x = 0 then y else x) :
    Calls Tryz.prog 90 #[.slice (some ⟨b, 0, none⟩) 2 2] w fun e w' => e = .returned (.int .i64 z) ∧ w' = w := by
  have HZ : Hid (z = if x = 0 then y else x) := hz
  clear hz
  go_enter Tryz.func90, Tryz.ntmps90
  go_wp2
  go_loopw [8] (fun iv wr => ∃ i : Nat, i ≤ 2 ∧ iv = .int .i64 i ∧ (1 ≤ i → x = 0) ∧ (2 ≤ i → y = 0) ∧ wr = w) (fun iv _ => 2 - (RowKit.intOf iv).toNat)
  case atStart => exact ⟨0, by omega, rfl, by omega, by omega, by first | rfl | trivial⟩
  case round =>
    obtain ⟨i, hi, rfl, hx, hy, rfl⟩ := hrel
    rcases (show i = 0 ∨ i = 1 ∨ i = 2 by omega) with rfl | rfl | rfl
    · by_cases hx0 : x = 0
      · subst hx0
        go_wp2
        go_roundw
        case rel => exact ⟨1, by omega, rfl, fun _ => by first | rfl | trivial, by omega, by first | rfl | trivial⟩
        case measure => simp [RowKit.intOf]
      · have e : z = x := by rw [HZ.out, if_neg hx0]
        subst e
        go_wp2
        go_ret
        exact ⟨rfl, rfl⟩
    · have hx0 := hx (by omega)
      subst hx0
      by_cases hy0 : y = 0
      · subst hy0
        go_wp2
        go_roundw
        case rel => exact ⟨2, by omega, rfl, fun _ => by first | rfl | trivial, fun _ => by first | rfl | trivial, by first | rfl | trivial⟩
        case measure => simp [RowKit.intOf]
      · have e : z = y := by rw [HZ.out, if_pos rfl]
        subst e
        go_wp2
        go_ret
        exact ⟨rfl, rfl⟩
    · have hx0 := hx (by omega)
      have hy0 := hy (by omega)
      have e : z = 0 := by rw [HZ.out, hx0, hy0]; rfl
      subst e
      go_wp2
      go_ret
      exact ⟨rfl, rfl⟩
theorem cell_at0 {w : World} {b i : Nat} {cs : Array Value} {t : TypeId} {v : Value} (h : w.heap[b]? = some (.cells cs t (0, 0))) (hv : cs[i]? = some v) : w.drew.cell? ⟨b, i, none⟩ = some v := by
  have : w.drew.heap[b]? = some (.cells cs t (0, 0)) := h
  rw [cell_of_row w.drew b i cs t (0, 0) this]; exact hv
end Go.Proofs.YtilcmkiihefkkabGreatDoor.Mn
end
