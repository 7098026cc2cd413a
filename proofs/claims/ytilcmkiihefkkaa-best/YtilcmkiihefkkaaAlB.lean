import Derived.Test.YtilcmkiihefkkaaAlA
import Derived.Deep.RegionHeld3
set_option linter.unusedVariables false
set_option linter.unusedSimpArgs false
namespace Go.Proofs.Ytilcmkiihefkkaa
open Go.RowKit Go.Shelf Go.Lib

set_option maxHeartbeats 1000000 in
theorem compareA_any (a b : Int × Int) (w : World) :
    Calls Try.prog 68 #[.agg #[.int .i64 a.1, .int .i64 a.2], .agg #[.int .i64 b.1, .int .i64 b.2]] w fun e w' => e = .returned (.int .i64 (cfA a b)) ∧ ∃ q os, w' = Sort.grow (w.drewN q) os := by
  obtain ⟨ar, ap⟩ := a
  obtain ⟨br, bp⟩ := b
  have c1 := fun W' => AnyG.cmp_Compare_int Try.cmpInt ap bp W'
  have c2 := fun W' => AnyG.cmp_Compare_int Try.cmpInt ar br W'
  change ∀ W', Calls Try.prog 84 _ _ _ at c1
  change ∀ W', Calls Try.prog 84 _ _ _ at c2
  rw [compareI_eq] at c1 c2
  have HZ : Hid (cfA (ar, ap) (br, bp) = if cmpI ap bp = 0 then cmpI ar br else cmpI ap bp) := rfl
  generalize cfA (ar, ap) (br, bp) = z at HZ ⊢
  generalize cmpI ap bp = x at c1 HZ
  generalize cmpI ar br = y at c2 HZ
  have cA : ∀ p q r, ((p = ap ∧ q = bp ∧ r = x) ∨ (p = ar ∧ q = br ∧ r = y)) → ∀ W, Calls Try.prog 84 #[.int .i64 p, .int .i64 q] W fun e w' => e = .returned (.int .i64 r) ∧ w' = W := by
    rintro p q r (⟨rfl, rfl, rfl⟩ | ⟨rfl, rfl, rfl⟩)
    · exact c1
    · exact c2
  clear c1 c2
  have hc : ∀ o1 o2 : Obj, ((((w.alloc o1).alloc o2).alloc (.cells #[.int .i64 x, .int .i64 y] 3)).drew).cell? ⟨w.heap.size + 1 + 1, 0, none⟩ = some (.int .i64 x) ∧ ((((w.alloc o1).alloc o2).alloc (.cells #[.int .i64 x, .int .i64 y] 3)).drew).cell? ⟨w.heap.size + 1 + 1, 1, none⟩ = some (.int .i64 y) := by
    intro o1 o2
    have h := heap_alloc_new ((w.alloc o1).alloc o2) (.cells #[.int .i64 x, .int .i64 y] 3 (0, 0))
    have e : ((w.alloc o1).alloc o2).heap.size = w.heap.size + 1 + 1 := by simp
    rw [e] at h
    exact ⟨cell_at0 h rfl, cell_at0 h rfl⟩
  have HCC := cmpOr_any x y _ _ (hc (.cells #[.int .i64 ar, .int .i64 ap] 116) (.cells #[.int .i64 br, .int .i64 bp] 116)).1 (hc _ _).2 z HZ.out
  clear hc HZ
  have HG : Hid (∃ os, (((w.alloc (.cells #[.int .i64 ar, .int .i64 ap] 116)).alloc (.cells #[.int .i64 br, .int .i64 bp] 116)).alloc (.cells #[.int .i64 x, .int .i64 y] 3)).drew = Sort.grow (w.drewN 1) os) := by
    refine ⟨#[.cells #[.int .i64 ar, .int .i64 ap] 116] ++ #[.cells #[.int .i64 br, .int .i64 bp] 116] ++ #[.cells #[.int .i64 x, .int .i64 y] 3], ?_⟩
    rw [Sort.alloc_eq_grow, Sort.alloc_eq_grow, Sort.grow_grow, Sort.alloc_eq_grow, Sort.grow_grow]; rfl
  go_enter Try.func68, Try.ntmps68
  go_wp2_with fail
  go_region_held3 (fun w' => w'.cell? ⟨w.heap.size, 0, none⟩ = some (.int .i64 ar) ∧ w'.cell? ⟨w.heap.size, 1, none⟩ = some (.int .i64 ap) ∧ w'.cell? ⟨w.heap.size + 1, 0, none⟩ = some (.int .i64 br) ∧ w'.cell? ⟨w.heap.size + 1, 1, none⟩ = some (.int .i64 bp)) (go_keep) (first | (go_at_call 84; (refine (cA _ _ _ (by first | exact Or.inl ⟨rfl, rfl, rfl⟩ | exact Or.inr ⟨rfl, rfl, rfl⟩) _).mono ?_; rintro e w' ⟨rfl, rfl⟩)) | (go_at_call 83; refine HCC.mono ?_; rintro e w' ⟨rfl, rfl⟩))
  go_wp2_with fail
  go_ret
  exact ⟨rfl, 1, HG.out⟩

/-- STEP less GAP, in quarters -/
def gnq (a b k : Int) : Int := 4 * lst a b k - apt a b - 2 * (Go.Lib.bitLen (apt a b).toNat : Nat)

set_option maxHeartbeats 1000000 in
theorem gain_any (a b k : Int) (w : World) (a1 : 1 ≤ a) (a2 : a ≤ 10000) (b1 : 1 ≤ b) (b2 : b ≤ 10000) (k1 : 1 ≤ k) (k2 : k ≤ 12) :
    Calls Try.prog 71 #[.int .i64 a, .int .i64 b, .int .i64 k] w fun e w' => e = .returned (.float .f64 (fq (gnq a b k))) ∧ w' = w := by
  obtain ⟨d, hd⟩ : ∃ d : Nat, (d : Int) = apt a b := ⟨(apt a b).toNat, by unfold apt; omega⟩
  have hd2 : d ≤ 10000 := by unfold apt at hd; omega
  have hbl := bitLen_le20 d (by omega)
  have cL := fun W' => Any.bits_Len Try.bitsLen (d : Int) W' (by omega) (by omega)
  change ∀ W', Calls Try.prog 82 _ _ _ at cL
  rw [Int.toNat_natCast] at cL
  have HQ : Hid (gnq a b k = 4 * lst a b k - (d + 2 * (Go.Lib.bitLen d : Nat))) := by
    show _ = _
    unfold gnq
    rw [← hd, Int.toNat_natCast]
    omega
  obtain ⟨B, hB⟩ : ∃ B, B = Go.Lib.bitLen d := ⟨_, rfl⟩
  rw [← hB] at hbl cL HQ
  obtain ⟨m, hm⟩ : ∃ m, m = lst a b k := ⟨_, rfl⟩
  rw [← hm] at HQ
  have hm1 : 1 ≤ m ∧ m ≤ 12 := by rw [hm]; unfold lst; omega
  have p50 : (1048576 : Nat) ≤ 2 ^ 50 := by decide
  have p53 : (1048576 : Nat) ≤ 2 ^ 53 := by decide
  have e1 : floatOfInt .f64 (d : Int) = fq (4 * d) := ofInt_fq d (by omega)
  have e2 : floatOfInt .f64 (B : Int) = fq (4 * B) := ofInt_fq B (by omega)
  have e3 : floatOfInt .f64 m = fq (4 * m) := ofInt_fq m (by omega)
  have q1 : ∀ W t, (binOp .quo t (.float .f64 (fq (4 * d))) (.float .f64 4616189618054758400)).run Try.prog W = .ok (.float .f64 (fq d)) W := fun W t => run_float_arith W .quo t .f64 _ _ _ (quo_fq d 2 (by omega) (by omega))
  have q2 : ∀ W t, (binOp .quo t (.float .f64 (fq (4 * B))) (.float .f64 4611686018427387904)).run Try.prog W = .ok (.float .f64 (fq (2 * B))) W := fun W t => run_float_arith W .quo t .f64 _ _ _ (by
    have := quo_fq (2 * B) 1 (by omega) (by omega)
    rw [show (2 : Int) ^ 1 * (2 * (B : Int)) = 4 * B by omega] at this
    exact this)
  have q3 : ∀ W t, (binOp .add t (.float .f64 (fq d)) (.float .f64 (fq (2 * B)))).run Try.prog W = .ok (.float .f64 (fq (d + 2 * B))) W := fun W t => run_float_arith W .add t .f64 _ _ _ (add_fq _ _ (by omega) (by omega) (by omega))
  have q4 : ∀ W t, (binOp .sub t (.float .f64 (fq (4 * m))) (.float .f64 (fq (d + 2 * B)))).run Try.prog W = .ok (.float .f64 (fq (4 * m - (d + 2 * B)))) W := fun W t => run_float_arith W .sub t .f64 _ _ _ (sub_fq _ _ (by omega) (by omega) (by omega))
  have hap : max a b - min a b = d := by rw [hd]; unfold apt; rfl
  have hms : min (min a b) k = m := by rw [hm]; unfold lst; rfl
  rw [HQ.out]
  clear hd hm HQ hB p50 p53
  go_enter Try.func71, Try.ntmps71
  go_wp2_with (go_at_call 82; refine (cL _).mono ?_; rintro e w' ⟨rfl, rfl⟩)
  case inl =>
    have hx : k = m := by omega
    subst hx
    rw [e3, q4]
    simp only [Result.andThen]
    rw [Oper.upon_value]
    go_wp2_with fail
    go_ret
    exact ⟨rfl, rfl⟩
  case inr.inl =>
    have hx : b = m := by omega
    subst hx
    rw [e3, q4]
    simp only [Result.andThen]
    rw [Oper.upon_value]
    go_wp2_with fail
    go_ret
    exact ⟨rfl, rfl⟩
  case inr.inr =>
    have hx : a = m := by omega
    subst hx
    rw [e3, q4]
    simp only [Result.andThen]
    rw [Oper.upon_value]
    go_wp2_with fail
    go_ret
    exact ⟨rfl, rfl⟩

/-- a link as a value -/
def lkV (l : Lk) : Value := .agg #[.int .i64 l.a.1, .int .i64 l.a.2, .float .f64 (fq l.q), .int .i64 l.p]

theorem Try.info118 : (Try.prog.info? 118).map (fun i => (i.zero, i.size, i.bytes)) = some (some (.agg #[.int .i64 0, .int .i64 0, .float .f64 0, .int .i64 0]), 4, 32) := by kernel_rfl

set_option maxHeartbeats 1000000 in
theorem linkCompare_any (l m : Lk) (w : World) (hl : l.q.natAbs < 2 ^ 53) (hm : m.q.natAbs < 2 ^ 53) :
    Calls Try.prog 49 #[.agg #[.int .i64 l.a.1, .int .i64 l.a.2, .float .f64 (fq l.q), .int .i64 l.p], .agg #[.int .i64 m.a.1, .int .i64 m.a.2, .float .f64 (fq m.q), .int .i64 m.p]] w fun e w' => e = .returned (.int .i64 (cmpI l.q m.q)) ∧ Below w.heap.size w w' := by
  obtain ⟨⟨lr, lp⟩, lq, lpp⟩ := l
  obtain ⟨⟨mr, mp⟩, mq, mpp⟩ := m
  simp only at hl hm
  have al : ∀ (o p : Obj), Below w.heap.size w ((w.alloc o).alloc p) := fun o p => ((Below.refl _ w).alloc (Nat.le_refl _) o).alloc (by simp) p
  have c1 := fun W => compareF lq mq hl hm W
  generalize cmpI lq mq = r at c1 ⊢
  generalize fq lq = x at c1 ⊢
  generalize fq mq = y at c1 ⊢
  clear hl hm
  go_enter Try.func49, Try.ntmps49
  go_wp2_with (go_at_call 72; refine (c1 _).mono ?_; rintro e w' ⟨rfl, rfl⟩)
  go_ret
  exact ⟨rfl, al _ _⟩
end Go.Proofs.Ytilcmkiihefkkaa
