import Derived.Deep.RegionHeld3
import Derived.Test.YtilcmkiihefkkabGreatDoorJk17
import Derived.Test.YtilcmkiihefkkabGreatDoorJk36
section
set_option linter.unusedVariables false
set_option linter.unusedSimpArgs false
namespace Go.Proofs.YtilcmkiihefkkabGreatDoor.Mn
open Go.RowKit Go.Shelf Go.Lib
set_option maxHeartbeats 1000000 in
theorem compareA_any (a b : Int × Int) (w : World) :
    Calls Tryz.prog 120 #[.agg #[.int .i64 a.1, .int .i64 a.2], .agg #[.int .i64 b.1, .int .i64 b.2]] w fun e w' => e = .returned (.int .i64 (cfA a b)) ∧ ∃ q os, w' = Sort.grow (w.drewN q) os := by
  obtain ⟨ar, ap⟩ := a
  obtain ⟨br, bp⟩ := b
  have c1 := fun W' => AnyG.cmp_Compare_int Tryz.cmpInt ap bp W'
  have c2 := fun W' => AnyG.cmp_Compare_int Tryz.cmpInt ar br W'
  change ∀ W', Calls Tryz.prog 55 _ _ _ at c1
  change ∀ W', Calls Tryz.prog 55 _ _ _ at c2
  rw [compareI_eq] at c1 c2
  have HZ : Hid (cfA (ar, ap) (br, bp) = if cmpI ap bp = 0 then cmpI ar br else cmpI ap bp) := rfl
  generalize cfA (ar, ap) (br, bp) = z at HZ ⊢
  generalize cmpI ap bp = x at c1 HZ
  generalize cmpI ar br = y at c2 HZ
  have cA : ∀ p q r, ((p = ap ∧ q = bp ∧ r = x) ∨ (p = ar ∧ q = br ∧ r = y)) → ∀ W, Calls Tryz.prog 55 #[.int .i64 p, .int .i64 q] W fun e w' => e = .returned (.int .i64 r) ∧ w' = W := by
    rintro p q r (⟨rfl, rfl, rfl⟩ | ⟨rfl, rfl, rfl⟩)
    · exact c1
    · exact c2
  clear c1 c2
  have hc : ∀ o1 o2 : Obj, ((((w.alloc o1).alloc o2).alloc (.cells #[.int .i64 x, .int .i64 y] 3)).drew).cell? ⟨w.heap.size + 1 + 1, 0, none⟩ = some (.int .i64 x) ∧ ((((w.alloc o1).alloc o2).alloc (.cells #[.int .i64 x, .int .i64 y] 3)).drew).cell? ⟨w.heap.size + 1 + 1, 1, none⟩ = some (.int .i64 y) := by
    intro o1 o2
    have h := heap_alloc_new ((w.alloc o1).alloc o2) (.cells #[.int .i64 x, .int .i64 y] 3 (0, 0))
    have e : ((w.alloc o1).alloc o2).heap.size = w.heap.size + 1 + 1 := by simp
    rw [e] at h
    exact ⟨cell_at0 h rfl, cell_at0 h rfl⟩
  have HCC := cmpOr_any x y _ _ (hc (.cells #[.int .i64 ar, .int .i64 ap] 170) (.cells #[.int .i64 br, .int .i64 bp] 170)).1 (hc _ _).2 z HZ.out
  clear hc HZ
  have HG : Hid (∃ os, (((w.alloc (.cells #[.int .i64 ar, .int .i64 ap] 170)).alloc (.cells #[.int .i64 br, .int .i64 bp] 170)).alloc (.cells #[.int .i64 x, .int .i64 y] 3)).drew = Sort.grow (w.drewN 1) os) := by
    refine ⟨#[.cells #[.int .i64 ar, .int .i64 ap] 170] ++ #[.cells #[.int .i64 br, .int .i64 bp] 170] ++ #[.cells #[.int .i64 x, .int .i64 y] 3], ?_⟩
    rw [Sort.alloc_eq_grow, Sort.alloc_eq_grow, Sort.grow_grow, Sort.alloc_eq_grow, Sort.grow_grow]; rfl
  go_enter Tryz.func120, Tryz.ntmps120
  go_wp2_with fail
  go_region_held3 (fun w' => w'.cell? ⟨w.heap.size, 0, none⟩ = some (.int .i64 ar) ∧ w'.cell? ⟨w.heap.size, 1, none⟩ = some (.int .i64 ap) ∧ w'.cell? ⟨w.heap.size + 1, 0, none⟩ = some (.int .i64 br) ∧ w'.cell? ⟨w.heap.size + 1, 1, none⟩ = some (.int .i64 bp)) (go_keep) (first | (go_at_call 55; (refine (cA _ _ _ (by first | exact Or.inl ⟨rfl, rfl, rfl⟩ | exact Or.inr ⟨rfl, rfl, rfl⟩) _).mono ?_; rintro e w' ⟨rfl, rfl⟩)) | (go_at_call 90; refine HCC.mono ?_; rintro e w' ⟨rfl, rfl⟩))
  go_wp2_with fail
  go_ret
  exact ⟨rfl, 1, HG.out⟩
/-- STEP less GAP, in quarters -/
def gnq (a b k : Int) : Int := 4 * lst a b k - apt a b - 2 * (Go.Lib.bitLen (apt a b).toNat : Nat)
set_option maxHeartbeats 1000000 in
theorem gain_any (a b k : Int) (w : World) (a1 : 1 ≤ a) (a2 : a ≤ 10000) (b1 : 1 ≤ b) (b2 : b ≤ 10000) (k1 : 1 ≤ k) (k2 : k ≤ 12) :
    Calls Tryz.prog 123 #[.int .i64 a, .int .i64 b, .int .i64 k] w fun e w' => e = .returned (.float .f64 (fq (gnq a b k))) ∧ w' = w := by
  obtain ⟨d, hd⟩ : ∃ d : Nat, (d : Int) = apt a b := ⟨(apt a b).toNat, by unfold apt; omega⟩
  have hd2 : d ≤ 10000 := by unfold apt at hd; omega
  have hbl := bitLen_le20 d (by omega)
  have cL := fun W' => Any.bits_Len Tryz.bitsLen (d : Int) W' (by omega) (by omega)
  change ∀ W', Calls Tryz.prog 54 _ _ _ at cL
  rw [Int.toNat_natCast] at cL
  have HQ : Hid (gnq a b k = 4 * lst a b k - (d + 2 * (Go.Lib.bitLen d : Nat))) := by
    show _ = _
    unfold gnq
    rw [← hd, Int.toNat_natCast]
    omega
  obtain ⟨B, hB⟩ : ∃ B, B = Go.Lib.bitLen d := ⟨_, rfl⟩
  rw [← hB] at hbl cL HQ
  obtain ⟨m, hm⟩ : ∃ m, m = lst a b k := ⟨_, rfl⟩
  rw [← hm] at HQ
  have hm1 : 1 ≤ m ∧ m ≤ 12 := by rw [hm]; unfold lst; omega
  have p50 : (1048576 : Nat) ≤ 2 ^ 50 := by decide
  have p53 : (1048576 : Nat) ≤ 2 ^ 53 := by decide
  have e1 : floatOfInt .f64 (d : Int) = fq (4 * d) := ofInt_fq d (by omega)
  have e2 : floatOfInt .f64 (B : Int) = fq (4 * B) := ofInt_fq B (by omega)
  have e3 : floatOfInt .f64 m = fq (4 * m) := ofInt_fq m (by omega)
  have q1 : ∀ W t, (binOp .quo t (.float .f64 (fq (4 * d))) (.float .f64 4616189618054758400)).run Tryz.prog W = .ok (.float .f64 (fq d)) W := fun W t => run_float_arith W .quo t .f64 _ _ _ (quo_fq d 2 (by omega) (by omega))
  have q2 : ∀ W t, (binOp .quo t (.float .f64 (fq (4 * B))) (.float .f64 4611686018427387904)).run Tryz.prog W = .ok (.float .f64 (fq (2 * B))) W := fun W t => run_float_arith W .quo t .f64 _ _ _ (by
    have := quo_fq (2 * B) 1 (by omega) (by omega)
    rw [show (2 : Int) ^ 1 * (2 * (B : Int)) = 4 * B by omega] at this
    exact this)
  have q3 : ∀ W t, (binOp .add t (.float .f64 (fq d)) (.float .f64 (fq (2 * B)))).run Tryz.prog W = .ok (.float .f64 (fq (d + 2 * B))) W := fun W t => run_float_arith W .add t .f64 _ _ _ (add_fq _ _ (by omega) (by omega) (by omega))
  have q4 : ∀ W t, (binOp .sub t (.float .f64 (fq (4 * m))) (.float .f64 (fq (d + 2 * B)))).run Tryz.prog W = .ok (.float .f64 (fq (4 * m - (d + 2 * B)))) W := fun W t => run_float_arith W .sub t .f64 _ _ _ (sub_fq _ _ (by omega) (by omega) (by omega))
  have hap : max a b - min a b = d := by rw [hd]; unfold apt; rfl
  have hms : min (min a b) k = m := by rw [hm]; unfold lst; rfl
  rw [HQ.out]
  clear hd hm HQ hB p50 p53
  go_enter Tryz.func123, Tryz.ntmps123
  go_wp2_with (go_at_call 54; refine (cL _).mono ?_; rintro e w' ⟨rfl, rfl⟩)
  case inl =>
    have hx : k = m := by omega
    subst hx
    rw [e3, q4]
    simp only [Result.andThen]
    rw [Oper.upon_value]
    go_wp2_with fail
    go_ret
    exact ⟨rfl, rfl⟩
  case inr.inl =>
    have hx : b = m := by omega
    subst hx
    rw [e3, q4]
    simp only [Result.andThen]
    rw [Oper.upon_value]
    go_wp2_with fail
    go_ret
    exact ⟨rfl, rfl⟩
  case inr.inr =>
    have hx : a = m := by omega
    subst hx
    rw [e3, q4]
    simp only [Result.andThen]
    rw [Oper.upon_value]
    go_wp2_with fail
    go_ret
    exact ⟨rfl, rfl⟩
theorem Tryz.info172 : (Tryz.prog.info? 172).map (fun i => (i.zero, i.size, i.bytes)) = some (some (.agg #[.int .i64 0, .int .i64 0, .float .f64 0, .int .i64 0]), 4, 32) := by kernel_rfl
set_option maxHeartbeats 1000000 in
theorem linkCompare_any (l m : Lk) (w : World) (hl : l.q.natAbs < 2 ^ 53) (hm : m.q.natAbs < 2 ^ 53) :
    Calls Tryz.prog 87 #[.agg #[.int .i64 l.a.1, .int .i64 l.a.2, .float .f64 (fq l.q), .int .i64 l.p], .agg #[.int .i64 m.a.1, .int .i64 m.a.2, .float .f64 (fq m.q), .int .i64 m.p]] w fun e w' => e = .returned (.int .i64 (cmpI l.q m.q)) ∧ Below w.heap.size w w' := by
  obtain ⟨⟨lr, lp⟩, lq, lpp⟩ := l
  obtain ⟨⟨mr, mp⟩, mq, mpp⟩ := m
  simp only at hl hm
  have al : ∀ (o p : Obj), Below w.heap.size w ((w.alloc o).alloc p) := fun o p => ((Below.refl _ w).alloc (Nat.le_refl _) o).alloc (by simp) p
  have c1 := fun W => compareF lq mq hl hm W
  generalize cmpI lq mq = r at c1 ⊢
  generalize fq lq = x at c1 ⊢
  generalize fq mq = y at c1 ⊢
  clear hl hm
  go_enter Tryz.func87, Tryz.ntmps87
  go_wp2_with (go_at_call 91; refine (c1 _).mono ?_; rintro e w' ⟨rfl, rfl⟩)
  go_ret
  exact ⟨rfl, al _ _⟩
end Go.Proofs.YtilcmkiihefkkabGreatDoor.Mn
end
section
set_option linter.unusedVariables false
set_option linter.unusedSimpArgs false
namespace Go.Proofs.YtilcmkiihefkkabGreatDoor.Mn
open Go.RowKit Go.Shelf Go.Lib Go.Sort
/-- an anchor's two cells -/
def encA (x : Int × Int) : List Value := [.int .i64 x.1, .int .i64 x.2]
theorem flatA (L : List (Int × Int)) (q : Nat) (h : q < L.length) : (flatK encA 2 L.toArray)[2 * q]! = .int .i64 L[q].1 ∧ (flatK encA 2 L.toArray)[2 * q + 1]! = .int .i64 L[q].2 := by
  have e : L.toArray[q]! = L[q] := by simp [h]
  constructor
  · rw [get_flatK _ _ _ _ (by simp; omega), show 2 * q / 2 = q by omega, show 2 * q % 2 = 0 by omega, e]; rfl
  · rw [get_flatK _ _ _ _ (by simp; omega), show (2 * q + 1) / 2 = q by omega, show (2 * q + 1) % 2 = 1 by omega, e]; rfl
theorem OwnR.holdsA {w : World} {t : TypeId} {base g o n cap : Nat} {L : List (Int × Int)} (h : OwnR w base t 2 (.slice (some ⟨g, o, none⟩) n cap) n (acells L)) (hn : L.length = n) : HoldsK encA 2 w g o L.toArray ∧ g < w.heap.size := by
  rcases h.2 with ⟨h, _⟩ | ⟨g', o', cap', cur, he, h1, h2, h3, h4, h5, h6⟩
  · simp at h
  · simp only [Value.slice.injEq, Option.some.injEq, Addr.mk.injEq, and_true, true_and] at he
    obtain ⟨⟨rfl, rfl⟩, rfl⟩ := he
    refine ⟨fun j hj => ⟨?_, frozen_of_row _ _ _ _ _ h2⟩, lt_of_block h2⟩
    simp at hj
    have hq : j / 2 < L.length := by omega
    have hf := flatA L (j / 2) hq
    have ha := acells_at L (j / 2) hq
    rcases (show j = 2 * (j / 2) ∨ j = 2 * (j / 2) + 1 by omega) with he | he
    · rw [he]
      refine cell_at h2 (h6 _ _ ?_)
      rw [ha.1, hf.1]; rfl
    · rw [he]
      refine cell_at h2 (h6 _ _ ?_)
      rw [ha.2, hf.2]; rfl
/-- what a sort leaves -/
theorem OwnR.sortedA {w : World} {t : TypeId} {base g o n cap m : Nat} {L D : List (Int × Int)} {os : Array Obj} (h : OwnR w base t 2 (.slice (some ⟨g, o, none⟩) n cap) n (acells L)) (hL : L.length = n) (hD : D.length = n) :
    OwnR (sortWorldK encA 2 w g o m D.toArray os) base t 2 (.slice (some ⟨g, o, none⟩) n cap) n (acells D) ∧ (∀ j, j < w.heap.size → j ≠ g → (sortWorldK encA 2 w g o m D.toArray os).heap[j]? = w.heap[j]?) ∧ w.heap.size ≤ (sortWorldK encA 2 w g o m D.toArray os).heap.size ∧ (sortWorldK encA 2 w g o m D.toArray os).os = w.os ∧ (sortWorldK encA 2 w g o m D.toArray os).tape = w.tape ∧ (sortWorldK encA 2 w g o m D.toArray os).output = w.output := by
  obtain ⟨h0, h⟩ := h
  rcases h with ⟨h, _⟩ | ⟨g', o', cap', cur, he, h1, h2, h3, h4, h5, h6⟩
  · simp at h
  · simp only [Value.slice.injEq, Option.some.injEq, Addr.mk.injEq, and_true, true_and] at he
    obtain ⟨⟨rfl, rfl⟩, rfl⟩ := he
    have hlt := lt_of_block h2
    have hs1 : (putRowK encA 2 (Sort.ahead w m) g o D.toArray).heap.size = w.heap.size := by simp [putRowK]
    have hold : ∀ j, j < w.heap.size → (sortWorldK encA 2 w g o m D.toArray os).heap[j]? = (putRowK encA 2 (Sort.ahead w m) g o D.toArray).heap[j]? := fun j hj => heap_grow_old _ _ (by rw [hs1]; exact hj)
    refine ⟨⟨by rw [acells_length, hD], Or.inr ⟨g, o, cap, putCells id o (flatK encA 2 D.toArray) cur, rfl, h1, ?_, h3, h4, by simp [putCells]; exact h5, ?_⟩⟩, ?_, ?_, rfl, rfl, rfl⟩
    · rw [hold g hlt]
      show (mapBlock (Sort.ahead w m) g _).heap[g]? = _
      unfold mapBlock
      simp only [Array.getElem?_modify, if_true]
      show (w.heap[g]?).map _ = _
      rw [h2]; rfl
    · rw [acells_iff]
      intro q hq
      have hf := flatA D q hq
      have hb : o + n * 2 ≤ cur.size := Nat.le_trans (Nat.add_le_add_left (Nat.mul_le_mul_right 2 h3) _) h5
      unfold putCells
      rw [Array.getElem?_mapIdx, Array.getElem?_mapIdx, Array.getElem?_eq_getElem (show o + 2 * q < cur.size by omega), Array.getElem?_eq_getElem (show o + (2 * q + 1) < cur.size by omega)]
      simp only [Option.map_some]
      rw [if_pos (by simp; omega), if_pos (by simp; omega), show o + 2 * q - o = 2 * q by omega, show o + (2 * q + 1) - o = 2 * q + 1 by omega, hf.1, hf.2]
      exact ⟨rfl, rfl⟩
    · intro j hj hne
      rw [hold j hj]
      show (mapBlock (Sort.ahead w m) g _).heap[j]? = _
      unfold mapBlock
      simp only [Array.getElem?_modify]
      rw [if_neg (fun e => hne e.symm)]; rfl
    · show _ ≤ (grow _ _).heap.size
      rw [Sort.size_grow, hs1]; omega
theorem ltA (x y : Int × Int) : ltOf cfA x y = befB x y := by
  unfold ltOf
  exact cfA_lt x y
theorem swoA : SWO (ltOf cfA) := {
  irrefl := fun x => by rw [ltA, befB_not]; exact bef_irr x
  trans := fun x y z h1 h2 => by rw [ltA, befB_iff] at *; exact bef_trans h1 h2
  ntrans := fun x y z h1 h2 => by
    rw [ltA, befB_not] at *
    intro h
    rcases bef_tri x y with h3 | h3 | h3
    · exact h1 h3
    · subst h3; exact h2 h
    · exact h2 (bef_trans h3 h) }
theorem sort_any (L : List (Int × Int)) (n : Nat) (hn : L.length = n) (h2 : n ≤ 400) (base g o cap : Nat) (w : World) (hown : OwnR w base 170 2 (.slice (some ⟨g, o, none⟩) n cap) n (acells L)) :
    Calls Tryz.prog 119 #[.slice (some ⟨g, o, none⟩) n cap, .func (.func 120) #[] #[]] w fun e w' => e = .returned (.tuple #[]) ∧ OwnR w' base 170 2 (.slice (some ⟨g, o, none⟩) n cap) n (acells (L.mergeSort leB)) ∧ (∀ j, j < w.heap.size → j ≠ g → w'.heap[j]? = w.heap[j]?) ∧ w.heap.size ≤ w'.heap.size ∧ w'.os = w.os ∧ w'.tape = w.tape ∧ w'.output = w.output := by
  have eg : ∀ args w, (callFunc 120 args).run Tryz.prog w = .ok (.enter 120 args) w := enters_of Tryz.func120 (by kernel_rfl) rfl
  have hH := hown.holdsA hn
  have hc : CmpLays Tryz.prog 120 #[] encA 2 cfA g o L.toArray.size w := fun _ _ _ _ x y => compareA_any x y _
  have hcon := AnyQ.slices_SortFunc_total Tryz.sortA 2 Tryz.isAgg170 Tryz.sizeOf170 encA (fun _ => rfl) (fun x v hv => by simp [encA] at hv; rcases hv with rfl | rfl <;> rfl) cfA swoA 120 #[] g o cap L.toArray w eg hc hH.1 hH.2 (by simp; omega) (fun x y h1 h2 => by
    rw [ltA, befB_not] at h1 h2
    rcases bef_tri x y with h3 | h3 | h3
    · exact absurd h3 h1
    · exact h3
    · exact absurd h3 h2)
  change Calls Tryz.prog 119 _ _ _ at hcon
  have hsz : L.toArray.size = n := by simpa using hn
  rw [hsz] at hcon
  refine hcon.mono ?_
  rintro e w' ⟨rfl, m, os, rfl⟩
  have e1 : (L.toArray.toList.mergeSort fun x y => !ltOf cfA y x) = L.mergeSort leB := by
    have : (fun x y => !ltOf cfA y x) = leB := by
      funext x y
      rw [ltA]; rfl
    rw [this]
  rw [e1]
  exact ⟨rfl, hown.sortedA hn (by rw [List.length_mergeSort]; exact hn)⟩
end Go.Proofs.YtilcmkiihefkkabGreatDoor.Mn
end
section
set_option linter.unusedVariables false
set_option linter.unusedSimpArgs false
namespace Go.Proofs.YtilcmkiihefkkabGreatDoor.Mn
open Go.RowKit Go.Shelf Go.Lib
/-- links, as they lie in memory -/
def lcells (T : List Lk) : List Value := T.flatMap fun l => [.int .i64 l.a.1, .int .i64 l.a.2, .float .f64 (fq l.q), .int .i64 l.p]
theorem lcells_append (E F : List Lk) : lcells (E ++ F) = lcells E ++ lcells F := by simp [lcells]
theorem lcells_at (E : List Lk) : ∀ j, j < E.length → (lcells E)[4 * j]? = some (.int .i64 (E.getD j Lk0).a.1) ∧ (lcells E)[4 * j + 1]? = some (.int .i64 (E.getD j Lk0).a.2) ∧ (lcells E)[4 * j + 2]? = some (.float .f64 (fq (E.getD j Lk0).q)) ∧ (lcells E)[4 * j + 3]? = some (.int .i64 (E.getD j Lk0).p) := by
  induction E with
  | nil => intro j h; exact absurd h (by simp)
  | cons x E ih =>
    intro j h
    cases j with
    | zero => exact ⟨rfl, rfl, rfl, rfl⟩
    | succ j =>
      have := ih j (by simpa using h)
      show (Value.int .i64 x.a.1 :: Value.int .i64 x.a.2 :: Value.float .f64 (fq x.q) :: Value.int .i64 x.p :: lcells E)[4 * (j + 1)]? = _ ∧ (Value.int .i64 x.a.1 :: Value.int .i64 x.a.2 :: Value.float .f64 (fq x.q) :: Value.int .i64 x.p :: lcells E)[4 * (j + 1) + 1]? = _ ∧ (Value.int .i64 x.a.1 :: Value.int .i64 x.a.2 :: Value.float .f64 (fq x.q) :: Value.int .i64 x.p :: lcells E)[4 * (j + 1) + 2]? = _ ∧ (Value.int .i64 x.a.1 :: Value.int .i64 x.a.2 :: Value.float .f64 (fq x.q) :: Value.int .i64 x.p :: lcells E)[4 * (j + 1) + 3]? = _
      rw [show 4 * (j + 1) = 4 * j + 1 + 1 + 1 + 1 by omega]
      simpa using this
/-- what a slice of links reads as -/
theorem OwnR.lks {w : World} {base g o cap n : Nat} {T : List Lk} (h : OwnR w base 172 4 (.slice (some ⟨g, o, none⟩) n cap) n (lcells T)) :
    ∀ j, j < T.length → w.cell? ⟨g, o + j * 4, none⟩ = some (.int .i64 (T.getD j Lk0).a.1) ∧ w.cell? ⟨g, o + j * 4 + 1, none⟩ = some (.int .i64 (T.getD j Lk0).a.2) ∧ w.cell? ⟨g, o + j * 4 + 2, none⟩ = some (.float .f64 (fq (T.getD j Lk0).q)) ∧ w.cell? ⟨g, o + j * 4 + 3, none⟩ = some (.int .i64 (T.getD j Lk0).p) := by
  rcases h.2 with ⟨h, _⟩ | ⟨_, _, _, cur, he, h1, h2, h3, h4, h5, h6⟩
  · simp at h
  · simp only [Value.slice.injEq, Option.some.injEq, Addr.mk.injEq, and_true, true_and] at he
    obtain ⟨⟨rfl, rfl⟩, rfl⟩ := he
    intro j hj
    have := lcells_at T j hj
    rw [Nat.mul_comm]
    exact ⟨cell_at h2 (h6 _ _ this.1), cell_at h2 (h6 _ _ this.2.1), cell_at h2 (h6 _ _ this.2.2.1), cell_at h2 (h6 _ _ this.2.2.2)⟩
/-- the link of one more anchor -/
def lkN (k : Int) (T : List Lk) (x : Int × Int) : Lk := ⟨x, (bst k x T T.length).1, (bst k x T T.length).2⟩
theorem lbox_cells (W : World) (a b c d : Value) (t : TypeId) (s : Nat) (hs : s = W.heap.size) : ∀ j u, ([a, b, c, d] : List Value)[j]? = some u → (W.alloc (.cells #[a, b, c, d] t)).cell? ((⟨s, 0, none⟩ : Addr).add j) = some u := by
  intro j u hj
  subst hs
  rw [Addr.add_lit, Nat.zero_add]
  refine cell_at (heap_alloc_new W _) ?_
  simpa using hj
theorem lk_oneCell (a b : Int) (c : Nat) (d : Int) : ∀ u ∈ ([.int .i64 a, .int .i64 b, .float .f64 c, .int .i64 d] : List Value), u.oneCell' = true := by
  intro u hu
  simp at hu
  rcases hu with rfl | rfl | rfl | rfl <;> rfl
/-- what add leaves alone: all that is old, but the table and its row -/
structure TFr (w w' : World) (v : Value) (Tb : Nat) (v' : Value) : Prop where
  os : w'.os = w.os
  tape : w'.tape = w.tape
  output : w'.output = w.output
  size : w.heap.size ≤ w'.heap.size
  other : ∀ j, j < w.heap.size → j ≠ Tb → v.ownBlock ≠ some j → w'.heap[j]? = w.heap[j]?
  new : ∀ g, v'.ownBlock = some g → v.ownBlock = some g ∨ w.heap.size ≤ g
theorem run_store_flt (P : Program) (w : World) (a : Addr) (m : Mode) (k : FloatKind) (b : Nat) : (store a (.float k b) m).run P w = stored P w a (.float k b) m := run_store P w a _ m rfl
attribute [local go_sem] run_store_flt
theorem bst_cap (k : Int) (x : Int × Int) (T : List Lk) (n : Nat) (M : Int) (hk : k ≤ 12) (hM : 48 ≤ M) (hT : ∀ i, i < n → (T.getD i Lk0).q ≤ M) : (bst k x T n).1 ≤ 2 * M := by
  have : ∀ j, j ≤ n → (bst k x T j).1 ≤ 2 * M := by
    intro j
    induction j with
    | zero => intro _; simp [bst]; omega
    | succ j ih =>
      intro hj
      have h1 := ih (by omega)
      have h2 := hT j (by omega)
      have h3 := qtr_le (T.getD j Lk0).a x k
      unfold bst
      split
      · simp only; omega
      · exact h1
  exact this n (Nat.le_refl _)
/-- add at work: the anchor in its box, the best link so far -/
def AdI (w wx : World) (X : Nat) (xr xp q p : Int) : Prop := wx.heap[X]? = some (.cells #[.int .i64 xr, .int .i64 xp] 170 (0, 0)) ∧ wx.heap[X + 1]? = some (.cells #[.int .i64 xr, .int .i64 xp, .float .f64 (fq q), .int .i64 p] 172 (0, 0)) ∧ Below X w wx
theorem AdI.below {w wx wy : World} {X : Nat} {xr xp q p : Int} (h : AdI w wx X xr xp q p) {B : Nat} (hb : Below B wx wy) (hB : X + 1 < B) : AdI w wy X xr xp q p :=
  ⟨(hb.block X (by omega)).trans h.1, (hb.block (X + 1) hB).trans h.2.1, h.2.2.trans (hb.mono (by omega))⟩
theorem AdI.set {w wx : World} {X : Nat} {xr xp q p : Int} (h : AdI w wx X xr xp q p) (q' p' : Int) : AdI w ((wx.setCell ⟨X + 1, 2, none⟩ (.float .f64 (fq q'))).setCell ⟨X + 1, 3, none⟩ (.int .i64 p')) X xr xp q' p' := by
  obtain ⟨h1, h2, h3⟩ := h
  have u := (Upd.of_setCell (i := 2) (.float .f64 (fq q')) h2).setCell (i := 3) (.int .i64 p')
  refine ⟨(u.other X (by omega)).trans h1, u.here, (h3.setCell (p := ⟨X + 1, 2, none⟩) (Nat.le_succ _) _).setCell (p := ⟨X + 1, 3, none⟩) (Nat.le_succ _) _⟩
theorem tadd_end {w wr w2 : World} {nq Tb base n g' o' cap' X : Nat} {k : Int} {v : Value} {ob : Obj} {T : List Lk} {x : Int × Int} {bq bp : Int} (hltr : Tb < wr.heap.size) (hB2 : w2.heap[Tb]? = some (.cells #[.int .i64 k, v] 167 (0, 0)))
    (hown : OwnR w2 base 172 4 (.slice (some ⟨g', o', none⟩) (n + 1) cap') (n + 1) (lcells T ++ [.int .i64 x.1, .int .i64 x.2, .float .f64 (fq bq), .int .i64 bp])) (hfr : AppFr ((wr.drewN nq).alloc ob) w2 v g')
    (hlk : lkN k T x = ⟨x, bq, bp⟩) (h3 : Below X w wr) (hX : w.heap.size ≤ X) (hv : ∀ g, v.ownBlock = some g → g < X) :
    (w2.setCell ⟨Tb, 1, none⟩ (.slice (some ⟨g', o', none⟩) (n + 1) cap')).heap[Tb]? = some (.cells #[.int .i64 k, .slice (some ⟨g', o', none⟩) (n + 1) cap'] 167 (0, 0)) ∧
      OwnR (w2.setCell ⟨Tb, 1, none⟩ (.slice (some ⟨g', o', none⟩) (n + 1) cap')) base 172 4 (.slice (some ⟨g', o', none⟩) (n + 1) cap') (n + 1) (lcells (T ++ [lkN k T x])) ∧
      TFr w (w2.setCell ⟨Tb, 1, none⟩ (.slice (some ⟨g', o', none⟩) (n + 1) cap')) v Tb (.slice (some ⟨g', o', none⟩) (n + 1) cap') := by
  have hU := Upd.of_setCell (i := 1) (.slice (some ⟨g', o', none⟩) (n + 1) cap') hB2
  have hs := hfr.size
  have hsz : ((wr.drewN nq).alloc ob).heap.size = wr.heap.size + 1 := by simp
  have hsw := h3.size
  refine ⟨hU.here, ?_, ?_⟩
  · rw [lcells_append, hlk]
    exact hown.other (fun g hg _ => hU.other g (fun e => by subst e; exact hown.tag (by decide) hB2 hg))
  · refine ⟨hU.os.trans (hfr.os.trans h3.os), hU.tape.trans (hfr.tape.trans h3.tape), hU.output.trans (hfr.output.trans h3.output), by rw [hU.size]; omega, ?_, ?_⟩
    · intro j hj hjT hjv
      rw [hU.other j hjT, hfr.other j (by omega) hjv]
      exact (Below.heap_alloc (wr.drewN nq) ob j (show j < wr.heap.size by omega)).trans (h3.block j (by omega))
    · intro g hg
      simp only [Value.ownBlock, Option.some.injEq] at hg
      subst hg
      rcases hfr.new with h | h
      · exact Or.inl h
      · right; omega
set_option maxHeartbeats 4000000 in
set_option maxRecDepth 100000 in
theorem tadd_any (Tb base n : Nat) (k : Int) (T : List Lk) (v : Value) (x : Int × Int) (w : World) (hTl : T.length = n) (hn : n < 1000) (hk1 : 1 ≤ k) (hk2 : k ≤ 12) (hx : okA x)
    (hT : ∀ j, j < n → okA (T.getD j Lk0).a ∧ 0 ≤ (T.getD j Lk0).q ∧ (T.getD j Lk0).q ≤ 100000)
    (hB : w.heap[Tb]? = some (.cells #[.int .i64 k, v] 167 (0, 0))) (hown : OwnR w base 172 4 v n (lcells T)) (hbase : base ≤ w.heap.size) :
    Calls Tryz.prog 85 #[.pointer (some ⟨Tb, 0, none⟩), .agg #[.int .i64 x.1, .int .i64 x.2]] w fun e w' => e = .returned (.tuple #[]) ∧
      ∃ v', w'.heap[Tb]? = some (.cells #[.int .i64 k, v'] 167 (0, 0)) ∧ OwnR w' base 172 4 v' (n + 1) (lcells (T ++ [lkN k T x])) ∧ TFr w w' v Tb v' := by
  obtain ⟨i0, hi, hz0, hz1, hz2⟩ := info_parts Tryz.info172
  obtain ⟨ao, c, rfl⟩ := hown.shape
  obtain ⟨xr, xp⟩ := x
  have hltB := lt_of_block hB
  have c0 : w.cell? ⟨Tb, 0, none⟩ = some (.int .i64 k) := cell_at hB rfl
  have c1 : w.cell? ⟨Tb, 1, none⟩ = some (.slice ao n c) := cell_at hB rfl
  have HB : Hid (w.heap[Tb]? = some (.cells #[.int .i64 k, .slice ao n c] 167 (0, 0))) := hB
  have HOWN : Hid (OwnR w base 172 4 (.slice ao n c) n (lcells T)) := hown
  have HTL : Hid (T.length = n) := hTl
  have HT : Hid (∀ j, j < n → okA (T.getD j Lk0).a ∧ 0 ≤ (T.getD j Lk0).q ∧ (T.getD j Lk0).q ≤ 100000) := hT
  have HXO : Hid (okA (xr, xp)) := hx
  have HNE : Hid ((Value.slice ao n c).ownBlock ≠ some Tb) := hown.tag (by decide) hB
  have p50 : (1048576 : Nat) ≤ 2 ^ 50 := by decide
  have e1 : floatOfInt .f64 k = fq (4 * k) := ofInt_fq k (by omega)
  clear hB hown hTl hT hx p50
  go_enter Tryz.func85, Tryz.ntmps85
  go_wp2_with fail
  go_region
  go_wp2_with fail
  obtain ⟨X, hX⟩ : ∃ X, X = w.heap.size := ⟨_, rfl⟩
  have HX : Hid (X = w.heap.size) := hX
  have hTbX : Tb < X := by omega
  have HST : Hid (AdI w ((w.alloc (.cells #[.int .i64 xr, .int .i64 xp] 170)).alloc (.cells #[.int .i64 xr, .int .i64 xp, .float .f64 (fq (4 * k)), .int .i64 (-1)] 172)).drew X xr xp (4 * k) (-1)) := by
    refine ⟨?_, ?_, ?_⟩
    · rw [hX]
      exact (Below.heap_alloc (w.alloc (.cells #[.int .i64 xr, .int .i64 xp] 170)) _ _ (by simp)).trans (heap_alloc_new w _)
    · have := heap_alloc_new (w.alloc (.cells #[.int .i64 xr, .int .i64 xp] 170)) (.cells #[.int .i64 xr, .int .i64 xp, .float .f64 (fq (4 * k)), .int .i64 (-1)] 172 (0, 0))
      have e : (w.alloc (.cells #[.int .i64 xr, .int .i64 xp] 170)).heap.size = w.heap.size + 1 := by simp
      rw [e] at this
      rw [hX]
      exact this
    · rw [hX]
      exact (((Below.refl _ w).alloc (Nat.le_refl _) _).alloc (by simp) _).drew
  rw [← hX]
  clear hX
  go_loopw [20] (fun jv wx => ∃ j : Nat, j ≤ n ∧ jv = .int .i64 j ∧ AdI w wx X xr xp (bst k (xr, xp) T j).1 (bst k (xr, xp) T j).2) (fun jv _ => n - (RowKit.intOf jv).toNat)
  case atStart => exact ⟨0, Nat.zero_le _, rfl, HST.out⟩
  case round =>
    obtain ⟨j, hj, rfl, hI⟩ := hrel
    clear HST
    obtain ⟨h1, h2, h3⟩ := hI
    by_cases hlt : j < n
    · have hltI : (j : Int) < n := by omega
      obtain ⟨ag, aoff, hao, hag⟩ : ∃ ag aoff, ao = some ⟨ag, aoff, none⟩ ∧ ag < X := by
        have hh := HOWN.out
        rcases hh.2 with ⟨_, h⟩ | ⟨g', o', cap', cur, he, h1, h2, _⟩
        · omega
        · simp only [Value.slice.injEq] at he
          exact ⟨g', o', he.1, by rw [HX.out]; exact lt_of_block h2⟩
      subst hao
      obtain ⟨t, ht⟩ : ∃ t, t = T.getD j Lk0 := ⟨_, rfl⟩
      have hcl := HOWN.out.lks j (by rw [HTL.out]; exact hlt)
      have hto := HT.out j hlt
      rw [← ht] at hcl hto
      obtain ⟨⟨tr, tp⟩, tq, tpp⟩ := t
      simp only at hcl hto
      have HTJ : Hid (T.getD j Lk0 = ⟨(tr, tp), tq, tpp⟩) := ht.symm
      obtain ⟨d1, d2, d3, d4⟩ := hcl
      rw [← h3.cell hag] at d1 d2 d3 d4
      obtain ⟨hto1, hto2, hto3⟩ := hto
      have b0 : wr.cell? ⟨Tb, 0, none⟩ = some (.int .i64 k) := by rw [h3.cell hTbX]; exact c0
      obtain ⟨bq, hbq⟩ : ∃ q, q = (bst k (xr, xp) T j).1 := ⟨_, rfl⟩
      obtain ⟨bp, hbp⟩ : ∃ q, q = (bst k (xr, xp) T j).2 := ⟨_, rfl⟩
      rw [← hbq, ← hbp] at h2
      have HBQ : Hid (bq = (bst k (xr, xp) T j).1) := hbq
      have HBP : Hid (bp = (bst k (xr, xp) T j).2) := hbp
      have hXlt : X + 1 < wr.heap.size := lt_of_block h2
      have x0 : wr.cell? ⟨X, 0, none⟩ = some (.int .i64 xr) := cell_at h1 rfl
      have x1 : wr.cell? ⟨X, 1, none⟩ = some (.int .i64 xp) := cell_at h1 rfl
      have HI : Hid (AdI w wr X xr xp bq bp) := ⟨h1, h2, h3⟩
      clear ht hbq hbp h1 h2 h3
      have x0a : ∀ o, (wr.alloc o).cell? ⟨X, 0, none⟩ = some (.int .i64 xr) := fun o => (World.cell?_of_block (Below.heap_alloc _ _ X (by omega))).trans x0
      have x1a : ∀ o, (wr.alloc o).cell? ⟨X, 1, none⟩ = some (.int .i64 xp) := fun o => (World.cell?_of_block (Below.heap_alloc _ _ X (by omega))).trans x1
      obtain ⟨LO, hLO⟩ : ∃ o : Obj, o = .cells #[.int .i64 tr, .int .i64 tp, .float .f64 (fq tq), .int .i64 tpp] 172 := ⟨_, rfl⟩
      have hbA : Below wr.heap.size wr (wr.alloc LO) := (Below.refl _ _).alloc (Nat.le_refl _) _
      have hLn : (wr.alloc LO).heap[wr.heap.size]? = some LO := heap_alloc_new wr _
      have hLs : (wr.alloc LO).heap.size = wr.heap.size + 1 := by simp
      have HW4 : Hid (∀ w4, Below (wr.alloc LO).heap.size (wr.alloc LO) w4 → AdI w w4 X xr xp bq bp ∧ w4.heap[wr.heap.size]? = some LO ∧ w4.cell? ⟨Tb, 0, none⟩ = some (.int .i64 k) ∧ wr.heap.size < w4.heap.size) := fun w4 h4 => by
        have hb : Below wr.heap.size wr w4 := hbA.trans (h4.mono (by omega))
        refine ⟨HI.out.below hb hXlt, (h4.block _ (by omega)).trans hLn, ?_, ?_⟩
        · rw [hb.cell (show Tb < _ by omega)]; exact b0
        · have := h4.size
          omega
      rw [hLO] at HW4
      clear hbA hLn hLs hLO LO
      by_cases hf : fol (tr, tp) (xr, xp)
      · have hfB : folB (tr, tp) (xr, xp) = true := (folB_iff _ _).2 hf
        have cM := fun W => mayFollow_any (xr, xp) (tr, tp) W
        rw [hfB] at cM
        clear hfB
        go_wp2_with fail
        refine (cM _).mono ?_
        rintro e w4 ⟨rfl, hb4⟩
        obtain ⟨hA4, hL4, hT4, hs4⟩ := HW4.out w4 hb4
        clear HW4 hb4 x0a x1a cM
        obtain ⟨hf1, hf2⟩ := hf
        simp only at hf1 hf2
        have xo := HXO.out
        obtain ⟨xo1, xo2, xo3, xo4⟩ := xo
        obtain ⟨to1, to2, to3, to4⟩ := hto1
        simp only at xo1 xo2 xo3 xo4 to1 to2 to3 to4
        obtain ⟨Q, hQ⟩ : ∃ Q, Q = qtr (tr, tp) (xr, xp) k := ⟨_, rfl⟩
        have hQ1 : Q ≤ 48 := by rw [hQ]; exact Int.le_trans (qtr_le _ _ _) (by omega)
        have hQ2 : -20000 ≤ Q := by rw [hQ]; exact qtr_ge _ _ _ ⟨to1, to2, to3, to4⟩ HXO.out ⟨hf1, hf2⟩ hk1
        have cG : ∀ W, Calls Tryz.prog 123 #[.int .i64 (xp - tp), .int .i64 (xr - tr), .int .i64 k] W fun e w' => e = .returned (.float .f64 (fq Q)) ∧ w' = W := fun W => by
          rw [hQ]; exact gain_any (xp - tp) (xr - tr) k W (by omega) (by omega) (by omega) (by omega) hk1 hk2
        have HQ : Hid (Q = qtr (tr, tp) (xr, xp) k) := hQ
        have hbq0 : 4 * k ≤ bq := by rw [HBQ.out]; exact bst_ge _ _ _ _
        have hbq1 : bq ≤ 200000 := by
          rw [HBQ.out]
          exact bst_cap k (xr, xp) T j 100000 (by omega) (by omega) (fun i hi => (HT.out i (by omega)).2.2)
        have p53 : (1048576 : Nat) ≤ 2 ^ 53 := by decide
        have qa : ∀ W t, (binOp .add t (.float .f64 (fq tq)) (.float .f64 (fq Q))).run Tryz.prog W = .ok (.float .f64 (fq (tq + Q))) W := fun W t => run_float_arith W .add t .f64 _ _ _ (add_fq _ _ (by omega) (by omega) (by omega))
        have ho : FloatKind.f64.format.order (fq (tq + Q)) (fq bq) = some (compare (tq + Q) bq) := order_fq _ _ (by omega) (by omega)
        have l0 := cell_at hL4 (i := 0) rfl
        have l1 := cell_at hL4 (i := 1) rfl
        have l2 := cell_at hL4 (i := 2) rfl
        have l3 := cell_at hL4 (i := 3) rfl
        have y0 := cell_at hA4.1 (i := 0) rfl
        have y1 := cell_at hA4.1 (i := 1) rfl
        have z2 := cell_at hA4.2.1 (i := 2) rfl
        have z3 := cell_at hA4.2.1 (i := 3) rfl
        have zf2 : w4.frozen? ⟨X + 1, 2, none⟩ = false := frozen_of_row _ _ _ _ _ hA4.2.1
        have zf3 : w4.frozen? ⟨X + 1, 3, none⟩ = false := frozen_of_row _ _ _ _ _ hA4.2.1
        have HA4 : Hid (AdI w w4 X xr xp bq bp) := hA4
        have HFO : Hid (fol (tr, tp) (xr, xp)) := ⟨hf1, hf2⟩
        have s1 : IntKind.i64.wrap (xp - tp) = xp - tp := by rw [IntKind.wrap_i64]; omega
        have s2 : IntKind.i64.wrap (xr - tr) = xr - tr := by rw [IntKind.wrap_i64]; omega
        clear hQ p53 hL4 hA4 HI HT x0 x1 b0 d1 d2 d3 d4
        rcases Int.lt_trichotomy (tq + Q) bq with hc | hc | hc
        · rw [show compare (tq + Q) bq = .lt by simp [compare, compareOfLessAndEq, hc]] at ho
          go_wp2_with fail
          go_quiet ((go_at_call 123; refine Calls.quiet_of_same (cG _)))
          go_wp2_with fail
          go_roundw
          case rel =>
            have e : bst k (xr, xp) T (j + 1) = bst k (xr, xp) T j := by
              rw [bst, if_neg]
              rw [HTJ.out, ← HBQ.out]
              simp only
              rw [← HQ.out]
              exact fun h => by have := h.2; omega
            refine ⟨j + 1, by omega, by go_num, ?_⟩
            rw [e, ← HBQ.out, ← HBP.out]
            exact ⟨HA4.out.1, HA4.out.2.1, belDrewN HA4.out.2.2 _⟩
          case measure => simp [RowKit.intOf]; omega
        · rw [show compare (tq + Q) bq = .eq by rw [hc]; simp [compare, compareOfLessAndEq]] at ho
          subst hc
          go_wp2_with fail
          go_quiet ((go_at_call 123; refine Calls.quiet_of_same (cG _)))
          go_wp2_with fail
          go_roundw
          case rel =>
            have e : bst k (xr, xp) T (j + 1) = bst k (xr, xp) T j := by
              rw [bst, if_neg]
              rw [HTJ.out, ← HBQ.out]
              simp only
              rw [← HQ.out]
              exact fun h => by have := h.2; omega
            refine ⟨j + 1, by omega, by go_num, ?_⟩
            rw [e, ← HBQ.out, ← HBP.out]
            exact ⟨HA4.out.1, HA4.out.2.1, belDrewN HA4.out.2.2 _⟩
          case measure => simp [RowKit.intOf]; omega
        · rw [show compare (tq + Q) bq = .gt by
            have g1 : ¬ (tq + Q < bq) := by omega
            have g2 : ¬ (tq + Q = bq) := by omega
            simp [compare, compareOfLessAndEq, g1, g2]] at ho
          go_wp2_with fail
          go_quiet ((go_at_call 123; refine Calls.quiet_of_same (cG _)))
          go_wp2_with fail
          go_roundw
          case rel =>
            have e : bst k (xr, xp) T (j + 1) = (tq + Q, (j : Int)) := by
              rw [bst, if_pos]
              · rw [HTJ.out]
                simp only
                rw [← HQ.out]
              · rw [HTJ.out, ← HBQ.out]
                simp only
                rw [← HQ.out]
                exact ⟨HFO.out, hc⟩
            refine ⟨j + 1, by omega, by go_num, ?_⟩
            rw [e]
            have h5 : AdI w (w4.drewN nq) X xr xp bq bp := ⟨HA4.out.1, HA4.out.2.1, belDrewN HA4.out.2.2 _⟩
            exact h5.set _ _
          case measure => simp [RowKit.intOf]; omega
      · have hfB : folB (tr, tp) (xr, xp) = false := by
          rw [← Bool.not_eq_true, folB_iff]; exact hf
        have cM := fun W => mayFollow_any (xr, xp) (tr, tp) W
        rw [hfB] at cM
        have HFO : Hid (¬ fol (tr, tp) (xr, xp)) := hf
        clear hfB hf
        go_wp2_with fail
        refine (cM _).mono ?_
        rintro e w4 ⟨rfl, hb4⟩
        obtain ⟨hA4, hL4, hT4, hs4⟩ := HW4.out w4 hb4
        have HA4 : Hid (AdI w w4 X xr xp bq bp) := hA4
        clear HW4 hb4 x0a x1a cM hA4 hL4
        go_wp2_with fail
        go_roundw
        case rel =>
          have e : bst k (xr, xp) T (j + 1) = bst k (xr, xp) T j := by
            rw [bst, if_neg]
            rw [HTJ.out]
            exact fun h => HFO.out h.1
          refine ⟨j + 1, by omega, by go_num, ?_⟩
          rw [e, ← HBQ.out, ← HBP.out]
          exact HA4.out
        case measure => simp [RowKit.intOf]; omega
    · have hje : j = n := by omega
      subst hje
      obtain ⟨bq, hbq⟩ : ∃ q, q = (bst k (xr, xp) T j).1 := ⟨_, rfl⟩
      obtain ⟨bp, hbp⟩ : ∃ q, q = (bst k (xr, xp) T j).2 := ⟨_, rfl⟩
      rw [← hbq, ← hbp] at h2
      have HLK : Hid (lkN k T (xr, xp) = ⟨(xr, xp), bq, bp⟩) := by
        show _ = _
        unfold lkN
        rw [HTL.out, hbq, hbp]
      have hXlt : X + 1 < wr.heap.size := lt_of_block h2
      have hownr : OwnR wr base 172 4 (.slice ao j c) j (lcells T) := HOWN.out.other (fun g _ hlt => h3.block g (by rw [HX.out]; exact hlt))
      have hBr : wr.heap[Tb]? = some (.cells #[.int .i64 k, .slice ao j c] 167 (0, 0)) := (h3.block Tb hTbX).trans HB.out
      have HBR : Hid (wr.heap[Tb]? = some (.cells #[.int .i64 k, .slice ao j c] 167 (0, 0))) := hBr
      have t1 : wr.cell? ⟨Tb, 1, none⟩ = some (.slice ao j c) := cell_at hBr rfl
      have ft1 : wr.frozen? ⟨Tb, 1, none⟩ = false := frozen_of_row _ _ _ _ _ hBr
      have z0 := cell_at h2 (i := 0) rfl
      have z1 := cell_at h2 (i := 1) rfl
      have z2 := cell_at h2 (i := 2) rfl
      have z3 := cell_at h2 (i := 3) rfl
      have H3 : Hid (Below X w wr) := h3
      have hltr : Tb < wr.heap.size := by omega
      have hbr : base ≤ wr.heap.size := by have := h3.size; omega
      clear hbq hbp h1 h2 h3 hBr
      go_wp2_with fail
      go_region_law (refine step_own rfl (.tmp 63) (.tmp 65) 165 rfl 172 i0 _ 4 32 Tryz.underlying165 hi hz0 hz1 hz2 rfl (by decide) base (.slice ao j c) j (lcells T) (by simp [Act.eval]) (by exact hownr.other (fun g _ hlt => Below.heap_alloc (wr.drewN _) _ _ hlt)) ⟨wr.heap.size, 0, none⟩ 1 [.int .i64 xr, .int .i64 xp, .float .f64 (fq bq), .int .i64 bp] (by simp [Act.eval]) rfl (by exact lbox_cells (wr.drewN _) _ _ _ _ _ _ rfl) (lk_oneCell _ _ _ _) (by unfold maxLen; omega) (by omega) (by simp; omega) ?_; intro g' o' cap' w2 hown' hfr; have hB2 : w2.heap[Tb]? = some (.cells #[.int .i64 k, .slice ao j c] 167 (0, 0)) := (hfr.other Tb (by simp; omega) HNE.out).trans ((Below.heap_alloc (wr.drewN _) _ _ hltr).trans HBR.out); have HB2 : Hid _ := hB2; have q4 := cell_at hB2 (i := 1) rfl; have qf : w2.frozen? ⟨Tb, 1, none⟩ = false := frozen_of_row w2 _ _ _ _ hB2; clear hB2)
      all_goals go_end0
      all_goals exact ⟨rfl, _, tadd_end hltr HB2.out hown' hfr HLK.out H3.out (Nat.le_of_eq HX.out.symm) (fun g hg => by rw [HX.out]; exact (HOWN.out.lt hg).2)⟩
end Go.Proofs.YtilcmkiihefkkabGreatDoor.Mn
end
section
set_option linter.unusedVariables false
set_option linter.unusedSimpArgs false
namespace Go.Proofs.YtilcmkiihefkkabGreatDoor.Mn
open Go.RowKit Go.Shelf Go.Lib
theorem Tryz.info170 : (Tryz.prog.info? 170).map (fun i => (i.zero, i.size, i.bytes)) = some (some (.agg #[.int .i64 0, .int .i64 0]), 2, 16) := by kernel_rfl
theorem enter47 (args : Array Value) (w : World) : (callFunc 85 args).run Tryz.prog w = .ok (.enter 85 args) w := enters_of Tryz.func85 (by kernel_rfl) rfl args w
/-- all old blocks but one are as they were -/
structure ButB (w w' : World) (g : Nat) : Prop where
  os : w'.os = w.os
  tape : w'.tape = w.tape
  output : w'.output = w.output
  size : w.heap.size ≤ w'.heap.size
  other : ∀ j, j < w.heap.size → j ≠ g → w'.heap[j]? = w.heap[j]?
/-- the table while the anchors are added -/
def TbI (w wx : World) (Tb : Nat) (k : Int) (S : List (Int × Int)) (i : Nat) : Prop := ∃ v, wx.heap[Tb]? = some (.cells #[.int .i64 k, v] 167 (0, 0)) ∧ OwnR wx w.heap.size 172 4 v i (lcells (tb k S i)) ∧ ButB w wx Tb
set_option maxHeartbeats 4000000 in
set_option maxRecDepth 100000 in
theorem eachAnchor_any (L : List (Int × Int)) (n : Nat) (hn : L.length = n) (Tb g o cap : Nat) (k : Int) (w : World) (hk1 : 1 ≤ k) (hk2 : k ≤ 12) (h0 : 0 < n) (h4 : n ≤ 400) (hg : g < w.heap.size) (hgT : g ≠ Tb)
    (hA : ∀ j (hj : j < L.length), w.cell? ⟨g, o + j * 2, none⟩ = some (.int .i64 L[j].1) ∧ w.cell? ⟨g, o + j * 2 + 1, none⟩ = some (.int .i64 L[j].2))
    (hok : ∀ x ∈ L, okA x) (hB : w.heap[Tb]? = some (.cells #[.int .i64 k, .slice none 0 0] 167 (0, 0))) :
    Calls Tryz.prog 84 #[.slice (some ⟨g, o, none⟩) n cap, .func (.func 85) #[.pointer (some ⟨Tb, 0, none⟩)] #[]] w fun e w' => e = .returned (.tuple #[]) ∧ TbI w w' Tb k (canon L) (canon L).length := by
  obtain ⟨i6, hi6, hz0, hz1, hz2⟩ := info_parts Tryz.info170
  have hltT := lt_of_block hB
  have HN : Hid (L.length = n) := hn
  have HA : Hid (∀ j (hj : j < L.length), w.cell? ⟨g, o + j * 2, none⟩ = some (.int .i64 L[j].1) ∧ w.cell? ⟨g, o + j * 2 + 1, none⟩ = some (.int .i64 L[j].2)) := hA
  have HOK : Hid (∀ x ∈ L, okA x) := hok
  have HB : Hid (w.heap[Tb]? = some (.cells #[.int .i64 k, .slice none 0 0] 167 (0, 0))) := hB
  obtain ⟨Z, hZ, hmk⟩ : ∃ Z : Array Value, Z.size = n * 2 ∧ ∀ W : World, (Instr.makeSlice 211 (.int .i64 0) (.int .i64 n)).run Tryz.prog W = .ok (.slice (some ⟨W.heap.size, 0, none⟩) 0 n) (W.alloc (.cells Z 170)) := by
    refine ⟨madeCells (Value.agg #[.int .i64 0, .int .i64 0]).cells (n * 2), by rw [size_madeCells], fun W => ?_⟩
    have := run_make (P := Tryz.prog) W 211 170 i6 _ Tryz.underlying211 hi6 hz0 .i64 .i64 0 n (by omega) (by omega) (by rw [hz2]; omega) (by omega)
    rw [hz1] at this
    simpa using this
  clear hn hA hok hB
  go_enter Tryz.func84, Tryz.ntmps84
  go_wp2_with fail
  have HST : Hid (OwnR (w.alloc (.cells Z 170)) w.heap.size 170 2 (.slice (some ⟨w.heap.size, 0, none⟩) 0 n) 0 (acells (L.take 0))) := ⟨rfl, Or.inr ⟨w.heap.size, 0, n, Z, rfl, Nat.le_refl _, heap_alloc_new w _, Nat.zero_le _, by unfold maxLen; omega, by omega, fun j u hj => by simp [acells] at hj⟩⟩
  have HBST : Hid (Below w.heap.size w (w.alloc (.cells Z 170))) := (Below.refl _ w).alloc (Nat.le_refl _) _
  clear hmk
  go_loopw [4, 14] (fun sv iv wx => ∃ i : Nat, i ≤ n ∧ iv = .int .i64 i ∧ OwnR wx w.heap.size 170 2 sv i (acells (L.take i)) ∧ Below w.heap.size w wx) (fun _ iv _ => n - (RowKit.intOf iv).toNat)
  case atStart => exact ⟨0, Nat.zero_le _, rfl, HST.out, HBST.out⟩
  case round =>
    clear HST HBST
    obtain ⟨i, hi, rfl, hown, hbel⟩ := hrel
    obtain ⟨ao, c, hv⟩ := hown.shape
    subst hv
    by_cases hlt : i < n
    · have hltI : (i : Int) < n := by omega
      have hLi : i < L.length := by rw [HN.out]; exact hlt
      obtain ⟨c1, c2⟩ := HA.out i hLi
      rw [← hbel.cell hg] at c1 c2
      obtain ⟨x, hx⟩ : ∃ x, x = L[i] := ⟨_, rfl⟩
      rw [← hx] at c1 c2
      have HX : Hid (x = L[i]) := hx
      obtain ⟨xr, xp⟩ := x
      simp only at c1 c2
      have hsz := hbel.size
      have HBEL : Hid (Below w.heap.size w wr) := hbel
      have HOWN : Hid (OwnR wr w.heap.size 170 2 (.slice ao i c) i (acells (L.take i))) := hown
      clear hx hown hbel
      go_wp2_with (at_builtin; go_must (refine wpList_own _ rfl (.tmp 18) (.tmp 20) 211 rfl 170 i6 _ 2 16 Tryz.underlying211 hi6 hz0 hz1 hz2 rfl (by decide) w.heap.size (.slice ao i c) i (acells (L.take i)) rfl (by exact HOWN.out.other (fun g _ hlt => (Below.heap_alloc _ _ _ (by simp; omega)).trans (Below.heap_alloc _ _ _ hlt))) ⟨wr.heap.size + 1, 0, none⟩ 1 [.int .i64 xr, .int .i64 xp] rfl rfl (by exact abox_cells _ _ _ _ _ (by simp)) (an_oneCell _ _) (by unfold maxLen; omega) (by omega) (by simp; omega) ?_; intro g' o' cap' w3 hown3 hf3))
      go_roundw
      case rel =>
        refine ⟨i + 1, by omega, by go_num, ?_, ?_⟩
        · have e : acells (L.take (i + 1)) = acells (L.take i) ++ [.int .i64 xr, .int .i64 xp] := by
            rw [List.take_succ_eq_append_getElem hLi, acells_append, ← HX.out]; rfl
          rw [e]; exact hown3
        · refine ⟨hf3.os.trans HBEL.out.os, hf3.tape.trans HBEL.out.tape, hf3.output.trans HBEL.out.output, ?_, fun q hq => ?_⟩
          · have := hf3.size
            simp at this
            omega
          · rw [hf3.other q (by simp; omega) (fun he => by have := (HOWN.out.lt he).1; omega), Below.heap_alloc _ _ _ (by simp; omega), Below.heap_alloc _ _ _ (by omega)]
            exact HBEL.out.block q hq
      case measure => simp [RowKit.intOf]; omega
    · have he : i = n := by omega
      subst he
      obtain ⟨g1, o1, hao, hg1⟩ : ∃ g1 o1, ao = some ⟨g1, o1, none⟩ ∧ w.heap.size ≤ g1 := by
        rcases hown.2 with ⟨_, h⟩ | ⟨g', o', cap', cur, he, h1, h2, _⟩
        · omega
        · simp only [Value.slice.injEq] at he
          exact ⟨g', o', he.1, h1⟩
      subst hao
      rw [List.take_of_length_le (by rw [HN.out]; exact Nat.le_refl _)] at hown
      have HOWN : Hid (OwnR wr w.heap.size 170 2 (.slice (some ⟨g1, o1, none⟩) i c) i (acells L)) := hown
      have HBEL : Hid (Below w.heap.size w wr) := hbel
      clear hown hbel
      go_wp2_with (first | (go_at_call 119; refine (sort_any L i HN.out h4 w.heap.size g1 o1 c _ HOWN.out).mono ?_; rintro e w1 ⟨rfl, hs1, hs2, hs3, hs4, hs5, hs6⟩) | (go_at_call 121; refine (compact_any (L.mergeSort leB) i (by rw [List.length_mergeSort]; exact HN.out) h0 h4 w.heap.size g1 o1 c _ hs1).mono ?_; rintro e w2 ⟨rfl, hd1, hd2⟩))
      have HBE : Hid (Below w.heap.size w w2) := by
        have hg1l : g1 < wr.heap.size := (HOWN.out.lt rfl).2
        refine ⟨hd2.os.trans (hs4.trans HBEL.out.os), hd2.tape.trans (hs5.trans HBEL.out.tape), hd2.output.trans (hs6.trans HBEL.out.output), ?_, fun q hq => ?_⟩
        · have h1 := HBEL.out.size
          have h2 := hd2.size
          omega
        · have h1 := HBEL.out.size
          rw [hd2.other q (by omega), hs2 q (by omega) (by omega)]
          exact HBEL.out.block q hq
      have hSS : uniq (L.mergeSort leB) = canon L := rfl
      rw [hSS] at hd1 ⊢
      have HSO : Hid (∀ j (hj : j < (canon L).length), okA (canon L)[j]) := fun j hj => HOK.out _ ((mem_canon L _).1 (List.getElem_mem hj))
      have hm4 : (canon L).length ≤ 400 := Nat.le_trans (canon_length L) (by have := HN.out; omega)
      obtain ⟨S, hS⟩ : ∃ S, S = canon L := ⟨_, rfl⟩
      rw [← hS] at hd1 HSO hm4 ⊢
      obtain ⟨m, hm⟩ : ∃ m, m = S.length := ⟨_, rfl⟩
      have HM : Hid (m = S.length) := hm
      have HSS : Hid (S = canon L) := hS
      rw [← hm] at hd1 hm4 ⊢
      have HS2 : Hid (OwnR w2 w.heap.size 170 2 (.slice (some ⟨g1, o1, none⟩) m c) m (acells S)) := hd1
      clear hd1 hd2 hs1 hs2 hs3 hs4 hs5 hs6 hS hm hSS HA HOK
      go_loopw [28] (fun iv wx => ∃ q : Nat, q ≤ m ∧ iv = .int .i64 q ∧ TbI w wx Tb k S q ∧ OwnR wx w.heap.size 170 2 (.slice (some ⟨g1, o1, none⟩) m c) m (acells S)) (fun iv _ => m - (RowKit.intOf iv).toNat)
      case atStart =>
        exact ⟨0, Nat.zero_le _, rfl, ⟨_, (HBE.out.block Tb hltT).trans HB.out, OwnR.nil _ _ _ _, ⟨HBE.out.os, HBE.out.tape, HBE.out.output, HBE.out.size, fun j hj _ => HBE.out.block j hj⟩⟩, HS2.out⟩
      case round =>
        obtain ⟨q, hq, rfl, ⟨v, ht1, ht2, ht3⟩, hrow⟩ := hrel
        by_cases hqm : q < m
        · have hqI : (q : Int) < m := by omega
          have hSq : q < S.length := by rw [← HM.out]; exact hqm
          obtain ⟨c1, c2⟩ := hrow.ans q hSq
          obtain ⟨x, hx⟩ : ∃ x, x = S[q] := ⟨_, rfl⟩
          rw [← hx] at c1 c2
          have HX : Hid (S.getD q (0, 0) = x) := by
            show S.getD q (0, 0) = x
            rw [hx]; simp [hSq]
          have hxo : okA x := by rw [hx]; exact HSO.out q hSq
          have hsw := ht3.size
          have hTT : ∀ j, j < q → okA ((tb k S q).getD j Lk0).a ∧ 0 ≤ ((tb k S q).getD j Lk0).q ∧ ((tb k S q).getD j Lk0).q ≤ 100000 := fun j hj => by
            have hb := tb_bounds k (by omega) S q j hj
            have hSj : j < S.length := by omega
            refine ⟨?_, by omega, ?_⟩
            · rw [tb_getD k S j q hj]
              simp only
              have : S.getD j (0, 0) = S[j] := by simp [hSj]
              rw [this]; exact HSO.out j hSj
            · have h1 := hb.2.1
              have : 4 * k * ((j : Int) + 1) ≤ 48 * 401 := Int.mul_le_mul (by omega) (by omega) (by omega) (by omega)
              omega
          have hcA := fun ob : Obj => tadd_any Tb w.heap.size q k (tb k S q) v x (wr.alloc ob) (tb_length k S q) (by omega) hk1 hk2 hxo hTT ((Below.heap_alloc _ _ _ (by omega)).trans ht1) (ht2.other (fun g _ hlt => Below.heap_alloc _ _ _ hlt)) (by simp; omega)
          have HFIN : Hid (∀ (ob : Obj) (w' : World) (v' : Value), w'.heap[Tb]? = some (.cells #[.int .i64 k, v'] 167 (0, 0)) → OwnR w' w.heap.size 172 4 v' (q + 1) (lcells (tb k S q ++ [lkN k (tb k S q) x])) → TFr (wr.alloc ob) w' v Tb v' → TbI w w' Tb k S (q + 1) ∧ OwnR w' w.heap.size 170 2 (.slice (some ⟨g1, o1, none⟩) m c) m (acells S)) := by
            intro ob w' v' a1 a2 a3
            have hsa : (wr.alloc ob).heap.size = wr.heap.size + 1 := by simp
            refine ⟨⟨v', a1, ?_, ?_⟩, ?_⟩
            · have e : tb k S (q + 1) = tb k S q ++ [lkN k (tb k S q) x] := by
                simp only [tb, lkN, tb_length]
                have h := HX.out
                rw [h]
              rw [e]; exact a2
            · refine ⟨a3.os.trans ht3.os, a3.tape.trans ht3.tape, a3.output.trans ht3.output, by have := a3.size; omega, fun j hj hne => ?_⟩
              rw [a3.other j (by omega) hne (fun he => by have := (ht2.lt he).1; omega), Below.heap_alloc _ _ _ (by omega)]
              exact ht3.other j hj hne
            · refine hrow.other (fun g2 hg2 hlt2 => ?_)
              have hg2' : g1 = g2 := by simpa [Value.ownBlock] using hg2
              subst hg2'
              rw [a3.other g1 (by omega) (by omega) (fun he => ?_), Below.heap_alloc _ _ _ hlt2]
              obtain ⟨cur, hcur⟩ : ∃ cur, wr.heap[g1]? = some (.cells cur 170 (0, 0)) := by
                rcases hrow.2 with ⟨h, _⟩ | ⟨g3, o3, cap3, cur, h, _, h2, _⟩
                · simp at h
                · simp only [Value.slice.injEq, Option.some.injEq, Addr.mk.injEq, and_true, true_and] at h
                  obtain ⟨⟨rfl, rfl⟩, rfl⟩ := h
                  exact ⟨cur, h2⟩
              exact ht2.tag (by decide) hcur he
          obtain ⟨xr, xp⟩ := x
          simp only at c1 c2
          have e47 := enter47
          clear hx ht1 ht2 ht3 hrow hTT
          go_wp2_with fail
          refine (hcA _).mono ?_
          rintro e w' ⟨rfl, v', a1, a2, a3⟩
          obtain ⟨f1, f2⟩ := HFIN.out _ w' v' a1 a2 a3
          clear hcA HFIN a1 a2 a3
          go_wp2_with fail
          go_roundw
          case rel => exact ⟨q + 1, by omega, by go_num, f1, f2⟩
          case measure => simp [RowKit.intOf]; omega
        · have hqe : q = m := by omega
          subst hqe
          go_wp2_with fail
          go_end0
          refine ⟨rfl, ?_⟩
          rw [← HSS.out, ← HM.out]
          exact ⟨v, ht1, ht2, ht3⟩
end Go.Proofs.YtilcmkiihefkkabGreatDoor.Mn
end
