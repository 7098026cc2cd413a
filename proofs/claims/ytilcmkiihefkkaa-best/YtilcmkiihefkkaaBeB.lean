import Derived.Test.YtilcmkiihefkkaaBeA
import Derived.Test.YtilcmkiihefkkaaLaA
set_option linter.unusedVariables false
set_option linter.unusedSimpArgs false
namespace Go.Proofs.Ytilcmkiihefkkaa
open Go.RowKit Go.Shelf Go.Lib

theorem wqs_bound (k : Int) (C : List (Int × Int)) (hk1 : 1 ≤ k) (hk2 : k ≤ 12) (hok : ∀ j, j < C.length → okA (C.getD j A0)) (hr : risN C C.length) : ∀ i, i < C.length → -20000 * (i : Int) ≤ wqs k C i ∧ wqs k C i ≤ 48 * ((i : Int) + 1)
  | 0, _ => by
    constructor
    · show _ ≤ 4 * k; omega
    · show 4 * k ≤ _; omega
  | i + 1, h => by
    have ih := wqs_bound k C hk1 hk2 hok hr i (by omega)
    have h1 := qtr_ge _ _ k (hok i (by omega)) (hok (i + 1) h) (hr i (by omega)) hk1
    have h2 := qtr_le (C.getD i A0) (C.getD (i + 1) A0) k
    constructor
    · show _ ≤ wqs k C i + _
      omega
    · show wqs k C i + _ ≤ _
      omega

set_option maxHeartbeats 4000000 in
set_option maxRecDepth 100000 in
theorem worth_some (C : List (Int × Int)) (m : Nat) (hm : C.length = m) (h0 : 0 < m) (h4 : m ≤ 400) (g o cap : Nat) (k : Int) (w : World) (hk1 : 1 ≤ k) (hk2 : k ≤ 12)
    (hA : ∀ j (hj : j < C.length), w.cell? ⟨g, o + j * 2, none⟩ = some (.int .i64 C[j].1) ∧ w.cell? ⟨g, o + j * 2 + 1, none⟩ = some (.int .i64 C[j].2))
    (hok : ∀ j, j < C.length → okA (C.getD j A0)) (hr : risN C C.length) :
    Calls Try.prog 28 #[.slice (some ⟨g, o, none⟩) m cap, .int .i64 k] w fun e w' => e = .returned (.tuple #[.float .f64 (fq (wqs k C (m - 1))), .bool true]) ∧ ∃ q, w' = w.drewN q := by
  have HM : Hid (C.length = m) := hm
  have HA : Hid (∀ j (hj : j < C.length), w.cell? ⟨g, o + j * 2, none⟩ = some (.int .i64 C[j].1) ∧ w.cell? ⟨g, o + j * 2 + 1, none⟩ = some (.int .i64 C[j].2)) := hA
  have HOK : Hid (∀ j, j < C.length → okA (C.getD j A0)) := hok
  have HR : Hid (risN C C.length) := hr
  have HW : Hid (∀ i, i < C.length → -20000 * (i : Int) ≤ wqs k C i ∧ wqs k C i ≤ 48 * ((i : Int) + 1)) := wqs_bound k C hk1 hk2 hok hr
  have p50 : (100000000 : Nat) ≤ 2 ^ 50 := by decide
  have p53 : (100000000 : Nat) ≤ 2 ^ 53 := by decide
  have HP50 : Hid ((100000000 : Nat) ≤ 2 ^ 50) := p50
  have HP53 : Hid ((100000000 : Nat) ≤ 2 ^ 53) := p53
  have ek : floatOfInt .f64 k = fq (4 * k) := ofInt_fq k (by omega)
  have h0I : (0 : Int) < m := by omega
  clear hm hA hok hr p50 p53
  go_enter Try.func28, Try.ntmps28
  go_wp2_with fail
  go_loopw [6, 7] (fun nv iv wx => ∃ i : Nat, i < m ∧ nv = .float .f64 (fq (wqs k C i)) ∧ iv = .int .i64 ((i : Int) + 1) ∧ ∃ q, wx = w.drewN q) (fun _ iv _ => m + 1 - (intOf iv).toNat)
  case atStart => exact ⟨0, h0, rfl, rfl, 0, rfl⟩
  case round =>
    obtain ⟨i, hi, rfl, rfl, q0, rfl⟩ := hrel
    have hwb := HW.out i (by rw [HM.out]; exact hi)
    by_cases hlt : i + 1 < m
    · have hltI : (i : Int) + 1 < m := by omega
      have hiI : (i : Int) < m := by omega
      have hi4 : i ≤ 400 := by omega
      have hC1 : i + 1 < C.length := by rw [HM.out]; exact hlt
      obtain ⟨a1, a2⟩ := HA.out (i + 1) hC1
      obtain ⟨b1, b2⟩ := HA.out i (by omega)
      have hf := HR.out i hC1
      have ox := HOK.out (i + 1) hC1
      have oy := HOK.out i (by omega)
      have gx : C.getD (i + 1) A0 = C[i + 1] := by simp [hC1]
      have gy : C.getD i A0 = C[i]'(by omega) := by simp [show i < C.length by omega]
      rw [gx, gy] at hf
      rw [gx] at ox
      rw [gy] at oy
      obtain ⟨x, hx⟩ : ∃ x, x = C[i + 1] := ⟨_, rfl⟩
      obtain ⟨y, hy⟩ : ∃ y, y = C[i]'(by omega) := ⟨_, rfl⟩
      rw [← hx] at a1 a2 ox hf gx
      rw [← hy] at b1 b2 oy hf gy
      have HWS : Hid (wqs k C (i + 1) = wqs k C i + qtr y x k) := by
        show wqs k C i + _ = _
        rw [gx, gy]
      obtain ⟨xr, xp⟩ := x
      obtain ⟨yr, yp⟩ := y
      obtain ⟨ox1, ox2, ox3, ox4⟩ := ox
      obtain ⟨oy1, oy2, oy3, oy4⟩ := oy
      obtain ⟨f1, f2⟩ := hf
      simp only at a1 a2 b1 b2 ox1 ox2 ox3 ox4 oy1 oy2 oy3 oy4 f1 f2
      obtain ⟨A, hAe⟩ : ∃ A, A = xp - yp := ⟨_, rfl⟩
      obtain ⟨B, hBe⟩ : ∃ B, B = xr - yr := ⟨_, rfl⟩
      have hA1 : 1 ≤ A ∧ A ≤ 10000 := by omega
      have hB1 : 1 ≤ B ∧ B ≤ 10000 := by omega
      have HQ : Hid (qtr (yr, yp) (xr, xp) k = 4 * lst A B k - apt A B - 2 * (Go.Lib.bitLen (apt A B).toNat : Nat)) := by rw [hAe, hBe]; exact rfl
      have sA : IntKind.i64.wrap (xp - yp) = A := by rw [IntKind.wrap_i64]; omega
      have sB : IntKind.i64.wrap (xr - yr) = B := by rw [IntKind.wrap_i64]; omega
      have tA : xp - yp = A := hAe.symm
      have tB : xr - yr = B := hBe.symm
      rw [show o + (i + 1) * 2 = o + (i + 1) * 2 from rfl] at a1
      obtain ⟨N, hN⟩ : ∃ N, N = wqs k C i := ⟨_, rfl⟩
      rw [← hN] at HWS hwb ⊢
      have hNb : -10000000 ≤ N ∧ N ≤ 100000 := by omega
      clear hx hy gx gy hAe hBe hN
      have eA : floatOfInt .f64 A = fq (4 * A) := ofInt_fq A (by have := HP50.out; omega)
      have eB : floatOfInt .f64 B = fq (4 * B) := ofInt_fq B (by have := HP50.out; omega)
      have aA : ∀ W t, (binOp .add t (.float .f64 (fq N)) (.float .f64 (fq (4 * A)))).run Try.prog W = .ok (.float .f64 (fq (N + 4 * A))) W := fun W t => run_float_arith W .add t .f64 _ _ _ (add_fq _ _ (by have := HP53.out; omega) (by have := HP53.out; omega) (by have := HP53.out; omega))
      have aB : ∀ W t, (binOp .add t (.float .f64 (fq N)) (.float .f64 (fq (4 * B)))).run Try.prog W = .ok (.float .f64 (fq (N + 4 * B))) W := fun W t => run_float_arith W .add t .f64 _ _ _ (add_fq _ _ (by have := HP53.out; omega) (by have := HP53.out; omega) (by have := HP53.out; omega))
      have aK : ∀ W t, (binOp .add t (.float .f64 (fq N)) (.float .f64 (fq (4 * k)))).run Try.prog W = .ok (.float .f64 (fq (N + 4 * k))) W := fun W t => run_float_arith W .add t .f64 _ _ _ (add_fq _ _ (by have := HP53.out; omega) (by have := HP53.out; omega) (by have := HP53.out; omega))
      obtain ⟨D, hD⟩ : ∃ D : Nat, (D : Int) = apt A B := ⟨(apt A B).toNat, by unfold apt; omega⟩
      have hD4 : D ≤ 10000 := by unfold apt at hD; omega
      have hBL := bitLen_le20 D (by omega)
      obtain ⟨BL, hBLe⟩ : ∃ b, b = Go.Lib.bitLen D := ⟨_, rfl⟩
      rw [← hBLe] at hBL
      have HBL : Hid (0 + Go.Lib.bitLen D = BL) := by rw [hBLe]; exact Nat.zero_add _
      have HFIN : Hid (∀ s : Int, s = lst A B k → N + 4 * s - (D + 2 * (BL : Int)) = wqs k C (i + 1)) := by
        intro s hs
        have h1 := HWS.out
        have h2 := HQ.out
        rw [← hD, Int.toNat_natCast, ← hBLe] at h2
        rw [h1, h2, hs]
        omega
      have eD : floatOfInt .f64 (D : Int) = fq (4 * D) := ofInt_fq D (by have := HP50.out; omega)
      have qD : ∀ W t, (binOp .quo t (.float .f64 (fq (4 * D))) (.float .f64 4616189618054758400)).run Try.prog W = .ok (.float .f64 (fq D)) W := fun W t => run_float_arith W .quo t .f64 _ _ _ (quo_fq D 2 (by omega) (by have := HP50.out; omega))
      clear hBLe HWS HQ
      by_cases c1 : A < k
      · by_cases c2 : B < A
        · have c3 : ¬ (A - B < 0) := by omega
          have tD : A - B = (D : Int) := by unfold apt at hD; omega
          have hDp : ¬ ((D : Int) < 0) := by omega
          have HLS : Hid (B = lst A B k) := by show _ = _; unfold lst; omega
          clear hD
          go_wp2_with fail
          go_quiet (fail)
          go_wp2_with fail
          go_quiet (fail)
          go_wp2_with fail
          rename_i nq1 nq2
          go_loopw [11, 12] (fun dv gv wx => ∃ (d c : Nat), dv = .int .i64 d ∧ gv = .float .f64 (fq (D + 2 * (c : Int))) ∧ d ≤ 10000 ∧ Hid (c + Go.Lib.bitLen d = BL) ∧ c ≤ 20 ∧ ∃ q, wx = w.drewN q) (fun dv _ _ => (intOf dv).toNat)
          case atStart => exact ⟨D, 0, by first | rfl | simp, by simp, hD4, HBL.out, by omega, _, rfl⟩
          case round =>
            obtain ⟨d, c, rfl, rfl, hd, hc, hc2, qq, rfl⟩ := hrel
            by_cases hd0 : 0 < d
            · have hd0I : (0 : Int) < d := by omega
              have HBd : Hid (Go.Lib.bitLen d = Go.Lib.bitLen (d / 2) + 1) := bitLen_half d hd0 (by omega)
              have HT : Hid ((d : Int).tdiv 2 = ((d / 2 : Nat) : Int)) := by
                show (d : Int).tdiv 2 = _
                rw [Int.tdiv_eq_ediv_of_nonneg (by omega)]; omega
              have ah : ∀ W t, (binOp .add t (.float .f64 (fq (D + 2 * (c : Int)))) (.float .f64 4602678819172646912)).run Try.prog W = .ok (.float .f64 (fq (D + 2 * (c : Int) + 2))) W := fun W t => run_float_arith W .add t .f64 _ _ _ (add_fq _ 2 (by have := HP53.out; omega) (by decide) (by have := HP53.out; omega))
              go_wp2_with fail
              go_roundw
              case rel =>
                refine ⟨d / 2, c + 1, ?_, ?_, by omega, ?_, ?_, _, rfl⟩
                · have := HT.out; first | (rw [this]) | go_num | simp_all
                · rw [show (D : Int) + 2 * (c : Int) + 2 = D + 2 * ((c + 1 : Nat) : Int) by omega]
                · have h1 := HBd.out; have h2 := hc.out
                  show c + 1 + _ = BL
                  omega
                · have h1 := HBd.out; have h2 := hc.out; omega
              case measure => have := HT.out; simp [intOf]; omega
            · have hd00 : d = 0 := by omega
              subst hd00
              have hcB : c = BL := by
                have h2 := hc.out
                simpa [Go.Lib.bitLen, Go.Lib.bitLenAux] using h2
              subst hcB
              have sS : ∀ W t, (binOp .sub t (.float .f64 (fq (N + 4 * B))) (.float .f64 (fq (D + 2 * (c : Int))))).run Try.prog W = .ok (.float .f64 (fq (N + 4 * B - (D + 2 * (c : Int))))) W := fun W t => run_float_arith W .sub t .f64 _ _ _ (sub_fq _ _ (by have := HP53.out; omega) (by have := HP53.out; omega) (by have := HP53.out; omega))
              go_wp2_with fail
              go_roundw
              case rel =>
                refine ⟨i + 1, hlt, ?_, by go_num, _, rfl⟩
                rw [HFIN.out B HLS.out]
              case measure => simp [intOf]; omega
        · by_cases c3 : A - B < 0
          · have tD : A - B = -(D : Int) := by unfold apt at hD; omega
            have hDp : 0 < (D : Int) := by omega
            have HLS : Hid (A = lst A B k) := by show _ = _; unfold lst; omega
            clear hD
            go_wp2_with fail
            go_quiet (fail)
            go_wp2_with fail
            go_quiet (fail)
            go_wp2_with fail
            rename_i nq1 nq2
            go_loopw [11, 12] (fun dv gv wx => ∃ (d c : Nat), dv = .int .i64 d ∧ gv = .float .f64 (fq (D + 2 * (c : Int))) ∧ d ≤ 10000 ∧ Hid (c + Go.Lib.bitLen d = BL) ∧ c ≤ 20 ∧ ∃ q, wx = w.drewN q) (fun dv _ _ => (intOf dv).toNat)
            case atStart => exact ⟨D, 0, by first | rfl | simp, by simp, hD4, HBL.out, by omega, _, rfl⟩
            case round =>
              obtain ⟨d, c, rfl, rfl, hd, hc, hc2, qq, rfl⟩ := hrel
              by_cases hd0 : 0 < d
              · have hd0I : (0 : Int) < d := by omega
                have HBd : Hid (Go.Lib.bitLen d = Go.Lib.bitLen (d / 2) + 1) := bitLen_half d hd0 (by omega)
                have HT : Hid ((d : Int).tdiv 2 = ((d / 2 : Nat) : Int)) := by
                  show (d : Int).tdiv 2 = _
                  rw [Int.tdiv_eq_ediv_of_nonneg (by omega)]; omega
                have ah : ∀ W t, (binOp .add t (.float .f64 (fq (D + 2 * (c : Int)))) (.float .f64 4602678819172646912)).run Try.prog W = .ok (.float .f64 (fq (D + 2 * (c : Int) + 2))) W := fun W t => run_float_arith W .add t .f64 _ _ _ (add_fq _ 2 (by have := HP53.out; omega) (by decide) (by have := HP53.out; omega))
                go_wp2_with fail
                go_roundw
                case rel =>
                  refine ⟨d / 2, c + 1, ?_, ?_, by omega, ?_, ?_, _, rfl⟩
                  · have := HT.out; first | (rw [this]) | go_num | simp_all
                  · rw [show (D : Int) + 2 * (c : Int) + 2 = D + 2 * ((c + 1 : Nat) : Int) by omega]
                  · have h1 := HBd.out; have h2 := hc.out
                    show c + 1 + _ = BL
                    omega
                  · have h1 := HBd.out; have h2 := hc.out; omega
                case measure => have := HT.out; simp [intOf]; omega
              · have hd00 : d = 0 := by omega
                subst hd00
                have hcB : c = BL := by
                  have h2 := hc.out
                  simpa [Go.Lib.bitLen, Go.Lib.bitLenAux] using h2
                subst hcB
                have sS : ∀ W t, (binOp .sub t (.float .f64 (fq (N + 4 * A))) (.float .f64 (fq (D + 2 * (c : Int))))).run Try.prog W = .ok (.float .f64 (fq (N + 4 * A - (D + 2 * (c : Int))))) W := fun W t => run_float_arith W .sub t .f64 _ _ _ (sub_fq _ _ (by have := HP53.out; omega) (by have := HP53.out; omega) (by have := HP53.out; omega))
                go_wp2_with fail
                go_roundw
                case rel =>
                  refine ⟨i + 1, hlt, ?_, by go_num, _, rfl⟩
                  rw [HFIN.out A HLS.out]
                case measure => simp [intOf]; omega
          · have tD : A - B = (D : Int) := by unfold apt at hD; omega
            have hDp : ¬ ((D : Int) < 0) := by omega
            have HLS : Hid (A = lst A B k) := by show _ = _; unfold lst; omega
            clear hD
            go_wp2_with fail
            go_quiet (fail)
            go_wp2_with fail
            go_quiet (fail)
            go_wp2_with fail
            rename_i nq1 nq2
            go_loopw [11, 12] (fun dv gv wx => ∃ (d c : Nat), dv = .int .i64 d ∧ gv = .float .f64 (fq (D + 2 * (c : Int))) ∧ d ≤ 10000 ∧ Hid (c + Go.Lib.bitLen d = BL) ∧ c ≤ 20 ∧ ∃ q, wx = w.drewN q) (fun dv _ _ => (intOf dv).toNat)
            case atStart => exact ⟨D, 0, by first | rfl | simp, by simp, hD4, HBL.out, by omega, _, rfl⟩
            case round =>
              obtain ⟨d, c, rfl, rfl, hd, hc, hc2, qq, rfl⟩ := hrel
              by_cases hd0 : 0 < d
              · have hd0I : (0 : Int) < d := by omega
                have HBd : Hid (Go.Lib.bitLen d = Go.Lib.bitLen (d / 2) + 1) := bitLen_half d hd0 (by omega)
                have HT : Hid ((d : Int).tdiv 2 = ((d / 2 : Nat) : Int)) := by
                  show (d : Int).tdiv 2 = _
                  rw [Int.tdiv_eq_ediv_of_nonneg (by omega)]; omega
                have ah : ∀ W t, (binOp .add t (.float .f64 (fq (D + 2 * (c : Int)))) (.float .f64 4602678819172646912)).run Try.prog W = .ok (.float .f64 (fq (D + 2 * (c : Int) + 2))) W := fun W t => run_float_arith W .add t .f64 _ _ _ (add_fq _ 2 (by have := HP53.out; omega) (by decide) (by have := HP53.out; omega))
                go_wp2_with fail
                go_roundw
                case rel =>
                  refine ⟨d / 2, c + 1, ?_, ?_, by omega, ?_, ?_, _, rfl⟩
                  · have := HT.out; first | (rw [this]) | go_num | simp_all
                  · rw [show (D : Int) + 2 * (c : Int) + 2 = D + 2 * ((c + 1 : Nat) : Int) by omega]
                  · have h1 := HBd.out; have h2 := hc.out
                    show c + 1 + _ = BL
                    omega
                  · have h1 := HBd.out; have h2 := hc.out; omega
                case measure => have := HT.out; simp [intOf]; omega
              · have hd00 : d = 0 := by omega
                subst hd00
                have hcB : c = BL := by
                  have h2 := hc.out
                  simpa [Go.Lib.bitLen, Go.Lib.bitLenAux] using h2
                subst hcB
                have sS : ∀ W t, (binOp .sub t (.float .f64 (fq (N + 4 * A))) (.float .f64 (fq (D + 2 * (c : Int))))).run Try.prog W = .ok (.float .f64 (fq (N + 4 * A - (D + 2 * (c : Int))))) W := fun W t => run_float_arith W .sub t .f64 _ _ _ (sub_fq _ _ (by have := HP53.out; omega) (by have := HP53.out; omega) (by have := HP53.out; omega))
                go_wp2_with fail
                go_roundw
                case rel =>
                  refine ⟨i + 1, hlt, ?_, by go_num, _, rfl⟩
                  rw [HFIN.out A HLS.out]
                case measure => simp [intOf]; omega
      · by_cases c2 : B < k
        · have c3 : ¬ (A - B < 0) := by omega
          have tD : A - B = (D : Int) := by unfold apt at hD; omega
          have hDp : ¬ ((D : Int) < 0) := by omega
          have HLS : Hid (B = lst A B k) := by show _ = _; unfold lst; omega
          clear hD
          go_wp2_with fail
          go_quiet (fail)
          go_wp2_with fail
          go_quiet (fail)
          go_wp2_with fail
          rename_i nq1 nq2
          go_loopw [11, 12] (fun dv gv wx => ∃ (d c : Nat), dv = .int .i64 d ∧ gv = .float .f64 (fq (D + 2 * (c : Int))) ∧ d ≤ 10000 ∧ Hid (c + Go.Lib.bitLen d = BL) ∧ c ≤ 20 ∧ ∃ q, wx = w.drewN q) (fun dv _ _ => (intOf dv).toNat)
          case atStart => exact ⟨D, 0, by first | rfl | simp, by simp, hD4, HBL.out, by omega, _, rfl⟩
          case round =>
            obtain ⟨d, c, rfl, rfl, hd, hc, hc2, qq, rfl⟩ := hrel
            by_cases hd0 : 0 < d
            · have hd0I : (0 : Int) < d := by omega
              have HBd : Hid (Go.Lib.bitLen d = Go.Lib.bitLen (d / 2) + 1) := bitLen_half d hd0 (by omega)
              have HT : Hid ((d : Int).tdiv 2 = ((d / 2 : Nat) : Int)) := by
                show (d : Int).tdiv 2 = _
                rw [Int.tdiv_eq_ediv_of_nonneg (by omega)]; omega
              have ah : ∀ W t, (binOp .add t (.float .f64 (fq (D + 2 * (c : Int)))) (.float .f64 4602678819172646912)).run Try.prog W = .ok (.float .f64 (fq (D + 2 * (c : Int) + 2))) W := fun W t => run_float_arith W .add t .f64 _ _ _ (add_fq _ 2 (by have := HP53.out; omega) (by decide) (by have := HP53.out; omega))
              go_wp2_with fail
              go_roundw
              case rel =>
                refine ⟨d / 2, c + 1, ?_, ?_, by omega, ?_, ?_, _, rfl⟩
                · have := HT.out; first | (rw [this]) | go_num | simp_all
                · rw [show (D : Int) + 2 * (c : Int) + 2 = D + 2 * ((c + 1 : Nat) : Int) by omega]
                · have h1 := HBd.out; have h2 := hc.out
                  show c + 1 + _ = BL
                  omega
                · have h1 := HBd.out; have h2 := hc.out; omega
              case measure => have := HT.out; simp [intOf]; omega
            · have hd00 : d = 0 := by omega
              subst hd00
              have hcB : c = BL := by
                have h2 := hc.out
                simpa [Go.Lib.bitLen, Go.Lib.bitLenAux] using h2
              subst hcB
              have sS : ∀ W t, (binOp .sub t (.float .f64 (fq (N + 4 * B))) (.float .f64 (fq (D + 2 * (c : Int))))).run Try.prog W = .ok (.float .f64 (fq (N + 4 * B - (D + 2 * (c : Int))))) W := fun W t => run_float_arith W .sub t .f64 _ _ _ (sub_fq _ _ (by have := HP53.out; omega) (by have := HP53.out; omega) (by have := HP53.out; omega))
              go_wp2_with fail
              go_roundw
              case rel =>
                refine ⟨i + 1, hlt, ?_, by go_num, _, rfl⟩
                rw [HFIN.out B HLS.out]
              case measure => simp [intOf]; omega
        · by_cases c3 : A - B < 0
          · have tD : A - B = -(D : Int) := by unfold apt at hD; omega
            have hDp : 0 < (D : Int) := by omega
            have HLS : Hid (k = lst A B k) := by show _ = _; unfold lst; omega
            clear hD
            go_wp2_with fail
            go_quiet (fail)
            go_wp2_with fail
            go_quiet (fail)
            go_wp2_with fail
            rename_i nq1 nq2
            go_loopw [11, 12] (fun dv gv wx => ∃ (d c : Nat), dv = .int .i64 d ∧ gv = .float .f64 (fq (D + 2 * (c : Int))) ∧ d ≤ 10000 ∧ Hid (c + Go.Lib.bitLen d = BL) ∧ c ≤ 20 ∧ ∃ q, wx = w.drewN q) (fun dv _ _ => (intOf dv).toNat)
            case atStart => exact ⟨D, 0, by first | rfl | simp, by simp, hD4, HBL.out, by omega, _, rfl⟩
            case round =>
              obtain ⟨d, c, rfl, rfl, hd, hc, hc2, qq, rfl⟩ := hrel
              by_cases hd0 : 0 < d
              · have hd0I : (0 : Int) < d := by omega
                have HBd : Hid (Go.Lib.bitLen d = Go.Lib.bitLen (d / 2) + 1) := bitLen_half d hd0 (by omega)
                have HT : Hid ((d : Int).tdiv 2 = ((d / 2 : Nat) : Int)) := by
                  show (d : Int).tdiv 2 = _
                  rw [Int.tdiv_eq_ediv_of_nonneg (by omega)]; omega
                have ah : ∀ W t, (binOp .add t (.float .f64 (fq (D + 2 * (c : Int)))) (.float .f64 4602678819172646912)).run Try.prog W = .ok (.float .f64 (fq (D + 2 * (c : Int) + 2))) W := fun W t => run_float_arith W .add t .f64 _ _ _ (add_fq _ 2 (by have := HP53.out; omega) (by decide) (by have := HP53.out; omega))
                go_wp2_with fail
                go_roundw
                case rel =>
                  refine ⟨d / 2, c + 1, ?_, ?_, by omega, ?_, ?_, _, rfl⟩
                  · have := HT.out; first | (rw [this]) | go_num | simp_all
                  · rw [show (D : Int) + 2 * (c : Int) + 2 = D + 2 * ((c + 1 : Nat) : Int) by omega]
                  · have h1 := HBd.out; have h2 := hc.out
                    show c + 1 + _ = BL
                    omega
                  · have h1 := HBd.out; have h2 := hc.out; omega
                case measure => have := HT.out; simp [intOf]; omega
              · have hd00 : d = 0 := by omega
                subst hd00
                have hcB : c = BL := by
                  have h2 := hc.out
                  simpa [Go.Lib.bitLen, Go.Lib.bitLenAux] using h2
                subst hcB
                have sS : ∀ W t, (binOp .sub t (.float .f64 (fq (N + 4 * k))) (.float .f64 (fq (D + 2 * (c : Int))))).run Try.prog W = .ok (.float .f64 (fq (N + 4 * k - (D + 2 * (c : Int))))) W := fun W t => run_float_arith W .sub t .f64 _ _ _ (sub_fq _ _ (by have := HP53.out; omega) (by have := HP53.out; omega) (by have := HP53.out; omega))
                go_wp2_with fail
                go_roundw
                case rel =>
                  refine ⟨i + 1, hlt, ?_, by go_num, _, rfl⟩
                  rw [HFIN.out k HLS.out]
                case measure => simp [intOf]; omega
          · have tD : A - B = (D : Int) := by unfold apt at hD; omega
            have hDp : ¬ ((D : Int) < 0) := by omega
            have HLS : Hid (k = lst A B k) := by show _ = _; unfold lst; omega
            clear hD
            go_wp2_with fail
            go_quiet (fail)
            go_wp2_with fail
            go_quiet (fail)
            go_wp2_with fail
            rename_i nq1 nq2
            go_loopw [11, 12] (fun dv gv wx => ∃ (d c : Nat), dv = .int .i64 d ∧ gv = .float .f64 (fq (D + 2 * (c : Int))) ∧ d ≤ 10000 ∧ Hid (c + Go.Lib.bitLen d = BL) ∧ c ≤ 20 ∧ ∃ q, wx = w.drewN q) (fun dv _ _ => (intOf dv).toNat)
            case atStart => exact ⟨D, 0, by first | rfl | simp, by simp, hD4, HBL.out, by omega, _, rfl⟩
            case round =>
              obtain ⟨d, c, rfl, rfl, hd, hc, hc2, qq, rfl⟩ := hrel
              by_cases hd0 : 0 < d
              · have hd0I : (0 : Int) < d := by omega
                have HBd : Hid (Go.Lib.bitLen d = Go.Lib.bitLen (d / 2) + 1) := bitLen_half d hd0 (by omega)
                have HT : Hid ((d : Int).tdiv 2 = ((d / 2 : Nat) : Int)) := by
                  show (d : Int).tdiv 2 = _
                  rw [Int.tdiv_eq_ediv_of_nonneg (by omega)]; omega
                have ah : ∀ W t, (binOp .add t (.float .f64 (fq (D + 2 * (c : Int)))) (.float .f64 4602678819172646912)).run Try.prog W = .ok (.float .f64 (fq (D + 2 * (c : Int) + 2))) W := fun W t => run_float_arith W .add t .f64 _ _ _ (add_fq _ 2 (by have := HP53.out; omega) (by decide) (by have := HP53.out; omega))
                go_wp2_with fail
                go_roundw
                case rel =>
                  refine ⟨d / 2, c + 1, ?_, ?_, by omega, ?_, ?_, _, rfl⟩
                  · have := HT.out; first | (rw [this]) | go_num | simp_all
                  · rw [show (D : Int) + 2 * (c : Int) + 2 = D + 2 * ((c + 1 : Nat) : Int) by omega]
                  · have h1 := HBd.out; have h2 := hc.out
                    show c + 1 + _ = BL
                    omega
                  · have h1 := HBd.out; have h2 := hc.out; omega
                case measure => have := HT.out; simp [intOf]; omega
              · have hd00 : d = 0 := by omega
                subst hd00
                have hcB : c = BL := by
                  have h2 := hc.out
                  simpa [Go.Lib.bitLen, Go.Lib.bitLenAux] using h2
                subst hcB
                have sS : ∀ W t, (binOp .sub t (.float .f64 (fq (N + 4 * k))) (.float .f64 (fq (D + 2 * (c : Int))))).run Try.prog W = .ok (.float .f64 (fq (N + 4 * k - (D + 2 * (c : Int))))) W := fun W t => run_float_arith W .sub t .f64 _ _ _ (sub_fq _ _ (by have := HP53.out; omega) (by have := HP53.out; omega) (by have := HP53.out; omega))
                go_wp2_with fail
                go_roundw
                case rel =>
                  refine ⟨i + 1, hlt, ?_, by go_num, _, rfl⟩
                  rw [HFIN.out k HLS.out]
                case measure => simp [intOf]; omega
    · have hie : i + 1 = m := by omega
      have hge : ¬ ((i : Int) + 1 < m) := by omega
      go_wp2_with fail
      go_ret2
      have e : m - 1 = i := by omega
      rw [e]
      exact ⟨rfl, _, rfl⟩
end Go.Proofs.Ytilcmkiihefkkaa
