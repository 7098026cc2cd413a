import Derived.Test.YtilcmkiihefkkabGreatDoorJk20
import Derived.Test.YtilcmkiihefkkabGreatDoorJk37
import Derived.Test.YtilcmkiihefkkabGreatDoorJk6
section
set_option linter.unusedVariables false
set_option linter.unusedSimpArgs false
set_option maxRecDepth 100000
namespace Go.Proofs.YtilcmkiihefkkabGreatDoor.Mn
open Go.RowKit Go.Shelf Go.Lib Go.Sort
def tw (s : Int × Bool) : Int := 2 * s.1 + (if s.2 = true then 1 else 0)
theorem twice_any (n : Int) (b : Bool) (w : World) (h0 : 0 ≤ n) (h1 : n < 100000) :
    Calls Tryz.prog 39 #[.int .i64 n, .bool b] w fun e w' => e = .returned (.int .i64 (tw (n, b))) ∧ w' = w := by
  have w1 : IntKind.i64.wrap (2 * n) = 2 * n := by rw [IntKind.wrap_i64]; omega
  have w2 : IntKind.i64.wrap (2 * n + 1) = 2 * n + 1 := by rw [IntKind.wrap_i64]; omega
  cases b
  · go_enter Tryz.func39, Tryz.ntmps39
    go_wp2
    go_ret
    exact ⟨by simp [tw], rfl⟩
  · go_enter Tryz.func39, Tryz.ntmps39
    go_wp2
    go_ret
    exact ⟨by simp [tw], rfl⟩
set_option maxHeartbeats 1000000 in
theorem scomp_any (an bn : Int) (ab bb : Bool) (w : World) (h1 : 0 ≤ an ∧ an < 100000) (h2 : 0 ≤ bn ∧ bn < 100000) :
    Calls Tryz.prog 92 #[.agg #[.int .i64 an, .bool ab], .agg #[.int .i64 bn, .bool bb]] w fun e w' => e = .returned (.int .i64 (cmpI (tw (an, ab)) (tw (bn, bb)))) ∧ ∃ q os, w' = Sort.grow (w.drewN q) os := by
  have cA := fun W => twice_any an ab W h1.1 h1.2
  have cB := fun W => twice_any bn bb W h2.1 h2.2
  have cC := fun W' => AnyG.cmp_Compare_int Tryz.cmpInt (tw (an, ab)) (tw (bn, bb)) W'
  change ∀ W', Calls Tryz.prog 55 _ _ _ at cC
  rw [compareI_eq] at cC
  generalize tw (an, ab) = ta at *
  generalize tw (bn, bb) = tb at *
  generalize cmpI ta tb = z at *
  go_enter Tryz.func92, Tryz.ntmps92
  go_wp2_with fail
  rename_i Q0 K0 hK0
  obtain ⟨wA, hwA⟩ : ∃ W1 : World, W1 = (w.alloc (Obj.cells #[Value.int IntKind.i64 an, Value.bool ab] 109)).alloc (Obj.cells #[Value.int IntKind.i64 bn, Value.bool bb] 109) := ⟨_, rfl⟩
  have HG : Hid (∃ os, wA.drew = Sort.grow (w.drewN 1) os) := by
    refine ⟨#[.cells #[.int .i64 an, .bool ab] 109] ++ #[.cells #[.int .i64 bn, .bool bb] 109], ?_⟩
    rw [hwA, Sort.alloc_eq_grow, Sort.alloc_eq_grow, Sort.grow_grow]; rfl
  have hA0 : wA.heap[w.heap.size]? = some (.cells #[Value.int IntKind.i64 an, Value.bool ab] 109 (0, 0)) := by rw [hwA, Below.heap_alloc _ _ _ (by simp)]; exact heap_alloc_new w _
  have hA1 : wA.heap[w.heap.size + 1]? = some (.cells #[Value.int IntKind.i64 bn, Value.bool bb] 109 (0, 0)) := by
    have := heap_alloc_new (w.alloc (Obj.cells #[Value.int IntKind.i64 an, Value.bool ab] 109)) (Obj.cells #[Value.int IntKind.i64 bn, Value.bool bb] 109)
    have e1 : (w.alloc (Obj.cells #[Value.int IntKind.i64 an, Value.bool ab] 109)).heap.size = w.heap.size + 1 := by simp
    rw [e1] at this
    rw [hwA]; exact this
  rw [← hwA]
  clear hwA
  have f0 : wA.drew.cell? ⟨w.heap.size, 0, none⟩ = some (.int .i64 an) := cell_at hA0 rfl
  have f1 : wA.drew.cell? ⟨w.heap.size, 1, none⟩ = some (.bool ab) := cell_at hA0 rfl
  have f2 : wA.drew.cell? ⟨w.heap.size + 1, 0, none⟩ = some (.int .i64 bn) := cell_at hA1 rfl
  have f3 : wA.drew.cell? ⟨w.heap.size + 1, 1, none⟩ = some (.bool bb) := cell_at hA1 rfl
  refine wp_region_X 12 (fun W => W.cell? ⟨w.heap.size, 0, none⟩ = some (.int .i64 an) ∧ W.cell? ⟨w.heap.size, 1, none⟩ = some (.bool ab) ∧ W.cell? ⟨w.heap.size + 1, 0, none⟩ = some (.int .i64 bn) ∧ W.cell? ⟨w.heap.size + 1, 1, none⟩ = some (.bool bb)) (by kernel_rfl) ⟨f0, f1, f2, f3⟩ (fun hH => ?_)
  refine wpZ 0 hH ?_
  refine wpZ 1 hH ?_
  refine wpZ 2 hH ?_
  refine wpZ 3 hH ?_
  refine wpZ 5 hH ?_
  refine wpZ 6 hH ?_
  refine wpZ 7 hH ?_
  refine wpZ 8 hH ?_
  refine wpAnyX_step (i := 4) (by kernel_rfl) rfl (by kernel_rfl) (fun K hK => ?_)
  go_simp
  go_at_call 39
  refine (cA _).mono ?_
  rintro e w7 ⟨rfl, rfl⟩
  refine hK.out _ _ hH ?_
  clear hK K
  try simp only [Act.put, zA0, zZ0, zS0]
  refine wpAnyX_step (i := 9) (by kernel_rfl) rfl (by kernel_rfl) (fun K hK => ?_)
  go_simp
  go_at_call 39
  refine (cB _).mono ?_
  rintro e w7 ⟨rfl, rfl⟩
  refine hK.out _ _ hH ?_
  clear hK K
  try simp only [Act.put, zA0, zZ0, zS0]
  refine wpAnyX_step (i := 10) (by kernel_rfl) rfl (by kernel_rfl) (fun K hK => ?_)
  go_simp
  go_at_call 55
  refine (cC _).mono ?_
  rintro e w7 ⟨rfl, rfl⟩
  refine hK.out _ _ hH ?_
  clear hK K
  try simp only [Act.put, zA0, zZ0, zS0]
  refine wpZ 11 hH ?_
  refine wpAnyX_done (by kernel_rfl) ?_
  refine hK0 _ _ ?_
  go_wp2_with fail
  go_ret
  exact ⟨rfl, 1, HG.out⟩
end Go.Proofs.YtilcmkiihefkkabGreatDoor.Mn
end
section
set_option linter.unusedVariables false
set_option linter.unusedSimpArgs false
set_option maxRecDepth 100000
namespace Go.Proofs.YtilcmkiihefkkabGreatDoor.Mn
open Go.RowKit Go.Shelf Go.Lib Go.Sort
def Grw (a b : World) : Prop := ∃ q os, b = Sort.grow (a.drewN q) os
theorem Grw.trans {a b c : World} (h : Grw a b) (k : Grw b c) : Grw a c := by
  obtain ⟨q1, o1, rfl⟩ := h
  obtain ⟨q2, o2, rfl⟩ := k
  refine ⟨q1 + q2, o1 ++ o2, ?_⟩
  rw [← World.drewN_drewN, ← Sort.grow_grow]
  rfl
theorem Grw.alloc {a b : World} (h : Grw a b) (o : Obj) : Grw a (b.alloc o) := h.trans ⟨0, #[o], by rw [Sort.alloc_eq_grow]; rfl⟩
theorem Grw.drew {a b : World} (h : Grw a b) : Grw a b.drew := h.trans ⟨1, #[], by
  have e : (b.drewN 1).heap ++ (#[] : Array Obj) = (b.drewN 1).heap := Array.append_empty
  show b.drew = { (b.drewN 1) with heap := (b.drewN 1).heap ++ #[] }
  rw [e]; rfl⟩
theorem Grw.refl (a : World) : Grw a a := ⟨0, #[], by
  have e : (a.drewN 0).heap ++ (#[] : Array Obj) = (a.drewN 0).heap := Array.append_empty
  show a = { (a.drewN 0) with heap := (a.drewN 0).heap ++ #[] }
  rw [e]; rfl⟩
theorem Grw.block {a b : World} (h : Grw a b) {g : Nat} (hg : g < a.heap.size) : b.heap[g]? = a.heap[g]? := by
  obtain ⟨q, o, rfl⟩ := h
  show (a.heap ++ o)[g]? = _
  rw [Array.getElem?_append_left hg]
theorem Grw.size {a b : World} (h : Grw a b) : a.heap.size ≤ b.heap.size := by
  obtain ⟨q, o, rfl⟩ := h
  show _ ≤ (a.heap ++ o).size
  simp
def ccI (qa qb ta tb : Int) : Int := if cmpI qb qa = 0 then cmpI ta tb else cmpI qb qa
set_option maxHeartbeats 1000000 in
theorem ccomp_any (an bn : Int) (ab bb : Bool) (va vb : Value) (qa qb : Int) (w : World) (h1 : 0 ≤ an ∧ an < 100000) (h2 : 0 ≤ bn ∧ bn < 100000) (h3 : 0 ≤ qa ∧ qa ≤ 100000) (h4 : 0 ≤ qb ∧ qb ≤ 100000) (ha : va.oneCell' = true) (hb : vb.oneCell' = true) :
    Calls Tryz.prog 59 #[.agg #[.int .i64 an, .bool ab, va, .float .f64 (fq qa)], .agg #[.int .i64 bn, .bool bb, vb, .float .f64 (fq qb)]] w fun e w' => e = .returned (.int .i64 (ccI qa qb (tw (an, ab)) (tw (bn, bb)))) ∧ Grw w w' := by
  have cF := fun W => compareF qb qa (by omega) (by omega) W
  have cS := fun W => scomp_any an bn ab bb W h1 h2
  have HZ : Hid (ccI qa qb (tw (an, ab)) (tw (bn, bb)) = if cmpI qb qa = 0 then cmpI (tw (an, ab)) (tw (bn, bb)) else cmpI qb qa) := rfl
  generalize ccI qa qb (tw (an, ab)) (tw (bn, bb)) = z at *
  generalize cmpI qb qa = x at *
  generalize cmpI (tw (an, ab)) (tw (bn, bb)) = y at *
  generalize fq qa = fa at *
  generalize fq qb = fb at *
  go_enter Tryz.func59, Tryz.ntmps59
  go_wp2_with fail
  rename_i Q0 K0 hK0
  obtain ⟨wA, hwA⟩ : ∃ W1 : World, W1 = (w.alloc (Obj.cells #[Value.int IntKind.i64 an, Value.bool ab, va, Value.float FloatKind.f64 fa] 112)).alloc (Obj.cells #[Value.int IntKind.i64 bn, Value.bool bb, vb, Value.float FloatKind.f64 fb] 112) := ⟨_, rfl⟩
  have HG : Hid (Grw w wA) := by rw [hwA]; exact ((Grw.refl w).alloc _).alloc _
  have hA0 : wA.heap[w.heap.size]? = some (.cells #[Value.int IntKind.i64 an, Value.bool ab, va, Value.float FloatKind.f64 fa] 112 (0, 0)) := by rw [hwA, Below.heap_alloc _ _ _ (by simp)]; exact heap_alloc_new w _
  have hA1 : wA.heap[w.heap.size + 1]? = some (.cells #[Value.int IntKind.i64 bn, Value.bool bb, vb, Value.float FloatKind.f64 fb] 112 (0, 0)) := by
    have := heap_alloc_new (w.alloc (Obj.cells #[Value.int IntKind.i64 an, Value.bool ab, va, Value.float FloatKind.f64 fa] 112)) (Obj.cells #[Value.int IntKind.i64 bn, Value.bool bb, vb, Value.float FloatKind.f64 fb] 112)
    have e1 : (w.alloc (Obj.cells #[Value.int IntKind.i64 an, Value.bool ab, va, Value.float FloatKind.f64 fa] 112)).heap.size = w.heap.size + 1 := by simp
    rw [e1] at this
    rw [hwA]; exact this
  have hlA : w.heap.size + 1 < wA.heap.size := lt_of_block hA1
  rw [← hwA]
  clear hwA
  have g0 : ∀ W : World, (∀ j, j < wA.heap.size → W.heap[j]? = wA.heap[j]?) → W.cell? ⟨w.heap.size, 3, none⟩ = some (.float .f64 fa) ∧ W.cell? ⟨w.heap.size + 1, 3, none⟩ = some (.float .f64 fb) ∧ W.cell? ⟨w.heap.size, 0, none⟩ = some (.int .i64 an) ∧ W.cell? ⟨w.heap.size, 1, none⟩ = some (.bool ab) ∧ W.cell? ⟨w.heap.size + 1, 0, none⟩ = some (.int .i64 bn) ∧ W.cell? ⟨w.heap.size + 1, 1, none⟩ = some (.bool bb) := by
    intro W hW
    have k0 := (hW _ (by omega)).trans hA0
    have k1 := (hW _ hlA).trans hA1
    exact ⟨cell_at k0 rfl, cell_at k1 rfl, cell_at k0 rfl, cell_at k0 rfl, cell_at k1 rfl, cell_at k1 rfl⟩
  refine wp_region_X 13 (fun W => W.cell? ⟨w.heap.size, 3, none⟩ = some (.float .f64 fa) ∧ W.cell? ⟨w.heap.size + 1, 3, none⟩ = some (.float .f64 fb) ∧ W.cell? ⟨w.heap.size, 0, none⟩ = some (.int .i64 an) ∧ W.cell? ⟨w.heap.size, 1, none⟩ = some (.bool ab) ∧ W.cell? ⟨w.heap.size + 1, 0, none⟩ = some (.int .i64 bn) ∧ W.cell? ⟨w.heap.size + 1, 1, none⟩ = some (.bool bb)) (by kernel_rfl) (g0 _ (fun _ _ => rfl)) (fun hH => ?_)
  refine wpZ 0 hH ?_
  refine wpZ 1 hH ?_
  refine wpZ 2 hH ?_
  refine wpZ 3 hH ?_
  refine wpZ 5 hH ?_
  refine wpZ 6 hH ?_
  refine wpZ 7 hH ?_
  refine wpZ 8 hH ?_
  refine wpAnyX_step (i := 4) (by kernel_rfl) rfl (by kernel_rfl) (fun K hK => ?_)
  go_simp
  go_at_call 91
  refine (cF _).mono ?_
  rintro e w7 ⟨rfl, rfl⟩
  refine hK.out _ _ hH ?_
  clear hK K
  try simp only [Act.put, zA0, zZ0, zS0]
  refine wpAnyX_step (i := 9) (by kernel_rfl) rfl (by kernel_rfl) (fun K hK => ?_)
  go_simp
  go_at_call 92
  refine (cS _).mono ?_
  rintro e w7 ⟨rfl, hw7⟩
  have hg7 : Grw wA w7 := ((Grw.refl wA).drew).trans hw7
  have hH := g0 w7 (fun j hj => hg7.block hj)
  have HG7 : Hid (Grw w w7) := HG.out.trans hg7
  refine hK.out _ _ hH ?_
  clear hK K hw7
  try simp only [Act.put, zA0, zZ0, zS0]
  refine wpAnyX_step (i := 10) (by kernel_rfl) rfl (by kernel_rfl) (fun K hK => ?_)
  go_simp
  have hH := g0 (w7.alloc (Obj.cells #[Value.int IntKind.i64 x, Value.int IntKind.i64 y] 3)) (fun j hj => (Below.heap_alloc w7 _ j (Nat.lt_of_lt_of_le hj hg7.size)).trans (hg7.block hj))
  have hn7 := heap_alloc_new w7 (Obj.cells #[Value.int IntKind.i64 x, Value.int IntKind.i64 y] 3)
  have HCC := cmpOr_any x y w7.heap.size (w7.alloc (Obj.cells #[Value.int IntKind.i64 x, Value.int IntKind.i64 y] 3)) (cell_at hn7 rfl) (cell_at hn7 rfl) z HZ.out
  have HG8 : Hid (Grw w (w7.alloc (Obj.cells #[Value.int IntKind.i64 x, Value.int IntKind.i64 y] 3))) := HG7.out.alloc _
  refine hK.out _ _ hH ?_
  clear hK K hn7
  try simp only [Act.put, zA0, zZ0, zS0]
  refine wpAnyX_step (i := 11) (by kernel_rfl) rfl (by kernel_rfl) (fun K hK => ?_)
  go_simp
  go_at_call 90
  refine HCC.mono ?_
  rintro e w8 ⟨rfl, rfl⟩
  refine hK.out _ _ hH ?_
  clear hK K
  try simp only [Act.put, zA0, zZ0, zS0]
  refine wpZ 12 hH ?_
  refine wpAnyX_done (by kernel_rfl) ?_
  refine hK0 _ _ ?_
  go_wp2_with fail
  go_ret
  exact ⟨rfl, HG8.out⟩
end Go.Proofs.YtilcmkiihefkkabGreatDoor.Mn
end
section
set_option linter.unusedVariables false
set_option linter.unusedSimpArgs false
set_option linter.unusedSectionVars false
set_option maxRecDepth 100000
namespace Go.Proofs.YtilcmkiihefkkabGreatDoor.Mn
open Go.RowKit Go.Shelf Go.Lib Go.Sort
section
variable {α : Type} [Inhabited α] {enc : α → List Value} {k : Nat}
theorem fm_len (hk : ∀ x, (enc x).length = k) : ∀ L : List α, (L.flatMap enc).length = L.length * k
  | [] => by simp
  | x :: t => by simp only [List.flatMap_cons, List.length_append, hk, fm_len hk t, List.length_cons, Nat.add_mul]; omega
theorem fm_get (hk : ∀ x, (enc x).length = k) : ∀ (L : List α) (q r : Nat) (h : q < L.length), r < k → (L.flatMap enc)[q * k + r]? = (enc (L[q]))[r]?
  | [], q, r, h, _ => by simp at h
  | x :: t, 0, r, h, hr => by
    rw [List.flatMap_cons, List.getElem?_append, hk, if_pos (by omega)]
    simp
  | x :: t, q + 1, r, h, hr => by
    have e : (q + 1) * k + r = k + (q * k + r) := by rw [Nat.add_mul]; omega
    rw [List.flatMap_cons, List.getElem?_append, hk, if_neg (by omega), e, Nat.add_sub_cancel_left, fm_get hk t q r (by simpa using h) hr]
    simp
theorem flat_get (hk : ∀ x, (enc x).length = k) (L : List α) (q r : Nat) (h : q < L.length) (hr : r < k) : (L.flatMap enc)[q * k + r]? = some ((flatK enc k L.toArray)[q * k + r]!) := by
  have h1 : q * k + r < L.length * k := by
    have : (q + 1) * k ≤ L.length * k := Nat.mul_le_mul_right _ h
    rw [Nat.add_mul] at this
    omega
  have hd : (q * k + r) / k = q := by rw [Nat.mul_comm, Nat.mul_add_div (by omega), Nat.div_eq_of_lt hr]; rfl
  have hm : (q * k + r) % k = r := by rw [Nat.mul_comm, Nat.mul_add_mod, Nat.mod_eq_of_lt hr]
  rw [fm_get hk L q r h hr, get_flatK _ _ _ _ (by simpa using h1), hd, hm]
  have e : L.toArray[q]! = L[q] := by simp [h]
  rw [e]
  have hl : r < (enc L[q]).length := by rw [hk]; exact hr
  simp [List.getElem?_eq_getElem hl, hl]
theorem flat_at (hk : ∀ x, (enc x).length = k) (hk0 : 0 < k) (L : List α) (j : Nat) (h : j < L.length * k) : (L.flatMap enc)[j]? = some ((flatK enc k L.toArray)[j]!) := by
  have hq : j / k < L.length := Nat.div_lt_of_lt_mul (by rw [Nat.mul_comm]; exact h)
  have := flat_get hk L (j / k) (j % k) hq (Nat.mod_lt _ hk0)
  rwa [Nat.mul_comm, Nat.div_add_mod] at this
theorem OwnR.holdsK (hk : ∀ x, (enc x).length = k) (hk0 : 0 < k) {w : World} {t : TypeId} {base g o n cap : Nat} {L : List α} (h : OwnR w base t k (.slice (some ⟨g, o, none⟩) n cap) n (L.flatMap enc)) (hn : L.length = n) : HoldsK enc k w g o L.toArray ∧ g < w.heap.size := by
  rcases h.2 with ⟨h, _⟩ | ⟨g', o', cap', cur, he, h1, h2, h3, h4, h5, h6⟩
  · simp at h
  · simp only [Value.slice.injEq, Option.some.injEq, Addr.mk.injEq, and_true, true_and] at he
    obtain ⟨⟨rfl, rfl⟩, rfl⟩ := he
    refine ⟨fun j hj => ⟨?_, frozen_of_row _ _ _ _ _ h2⟩, lt_of_block h2⟩
    simp at hj
    exact cell_at h2 (h6 _ _ (flat_at hk hk0 L j hj))
theorem OwnR.sortedK (hk : ∀ x, (enc x).length = k) (hk0 : 0 < k) {w : World} {t : TypeId} {base g o n cap m : Nat} {L D : List α} {os : Array Obj} (h : OwnR w base t k (.slice (some ⟨g, o, none⟩) n cap) n (L.flatMap enc)) (hL : L.length = n) (hD : D.length = n) :
    OwnR (sortWorldK enc k w g o m D.toArray os) base t k (.slice (some ⟨g, o, none⟩) n cap) n (D.flatMap enc) ∧ (∀ j, j < w.heap.size → j ≠ g → (sortWorldK enc k w g o m D.toArray os).heap[j]? = w.heap[j]?) ∧ w.heap.size ≤ (sortWorldK enc k w g o m D.toArray os).heap.size ∧ (sortWorldK enc k w g o m D.toArray os).os = w.os ∧ (sortWorldK enc k w g o m D.toArray os).tape = w.tape ∧ (sortWorldK enc k w g o m D.toArray os).output = w.output := by
  obtain ⟨h0, h⟩ := h
  rcases h with ⟨h, _⟩ | ⟨g', o', cap', cur, he, h1, h2, h3, h4, h5, h6⟩
  · simp at h
  · simp only [Value.slice.injEq, Option.some.injEq, Addr.mk.injEq, and_true, true_and] at he
    obtain ⟨⟨rfl, rfl⟩, rfl⟩ := he
    have hlt := lt_of_block h2
    have hs1 : (putRowK enc k (Sort.ahead w m) g o D.toArray).heap.size = w.heap.size := by simp [putRowK]
    have hold : ∀ j, j < w.heap.size → (sortWorldK enc k w g o m D.toArray os).heap[j]? = (putRowK enc k (Sort.ahead w m) g o D.toArray).heap[j]? := fun j hj => heap_grow_old _ _ (by rw [hs1]; exact hj)
    refine ⟨⟨by rw [fm_len hk, hD], Or.inr ⟨g, o, cap, putCells id o (flatK enc k D.toArray) cur, rfl, h1, ?_, h3, h4, by simp [putCells]; exact h5, ?_⟩⟩, ?_, ?_, rfl, rfl, rfl⟩
    · rw [hold g hlt]
      show (mapBlock (Sort.ahead w m) g _).heap[g]? = _
      unfold mapBlock
      simp only [Array.getElem?_modify, if_true]
      show (w.heap[g]?).map _ = _
      rw [h2]; rfl
    · intro j u hu
      have hj : j < D.length * k := by
        rcases Nat.lt_or_ge j (D.length * k) with h | h
        · exact h
        · rw [List.getElem?_eq_none (by rw [fm_len hk]; exact h)] at hu; cases hu
      rw [flat_at hk hk0 D j hj] at hu
      have hb : o + n * k ≤ cur.size := Nat.le_trans (Nat.add_le_add_left (Nat.mul_le_mul_right k h3) _) h5
      have hj2 : o + j < cur.size := by rw [hD] at hj; omega
      unfold putCells
      rw [Array.getElem?_mapIdx, Array.getElem?_eq_getElem hj2]
      simp only [Option.map_some]
      rw [if_pos (by simp; rw [hD] at hj; rw [hD]; omega), show o + j - o = j by omega]
      simpa using hu
    · intro j hj hne
      rw [hold j hj]
      show (mapBlock (Sort.ahead w m) g _).heap[j]? = _
      unfold mapBlock
      simp only [Array.getElem?_modify]
      rw [if_neg (fun e => hne e.symm)]; rfl
    · show _ ≤ (grow _ _).heap.size
      rw [Sort.size_grow, hs1]; omega
end
/-- a candidate: its side; the chain and the score go by the side -/
abbrev Cd := Fin 100000 × Bool
def sd (a : Cd) : Int × Bool := ((a.1.val : Int), a.2)
def encC (Vc : Int × Bool → Value) (Qc : Int × Bool → Int) (a : Cd) : List Value := [.int .i64 (a.1.val : Int), .bool a.2, Vc (sd a), .float .f64 (fq (Qc (sd a)))]
def cfC (Qc : Int × Bool → Int) (a b : Cd) : Int := ccI (Qc (sd a)) (Qc (sd b)) (tw (sd a)) (tw (sd b))
def ltC (Qc : Int × Bool → Int) (a b : Cd) : Prop := Qc (sd b) < Qc (sd a) ∨ (Qc (sd a) = Qc (sd b) ∧ tw (sd a) < tw (sd b))
theorem cmpI_cases (a b : Int) : (a < b ∧ cmpI a b = -1) ∨ (a = b ∧ cmpI a b = 0) ∨ (b < a ∧ cmpI a b = 1) := by
  unfold cmpI
  rcases Int.lt_trichotomy a b with h | h | h
  · left; exact ⟨h, by rw [if_pos h]⟩
  · right; left; exact ⟨h, by rw [if_neg (by omega), if_neg (by omega)]⟩
  · right; right; exact ⟨h, by rw [if_neg (by omega), if_pos h]⟩
theorem ltC_iff (Qc : Int × Bool → Int) (a b : Cd) : ltOf (cfC Qc) a b = true ↔ ltC Qc a b := by
  unfold ltOf cfC ccI ltC
  rw [decide_eq_true_eq]
  rcases cmpI_cases (Qc (sd b)) (Qc (sd a)) with ⟨h, e⟩ | ⟨h, e⟩ | ⟨h, e⟩ <;> rw [e]
  · simp; exact Or.inl h
  · simp only [if_true]
    rcases cmpI_cases (tw (sd a)) (tw (sd b)) with ⟨h2, e2⟩ | ⟨h2, e2⟩ | ⟨h2, e2⟩ <;> rw [e2] <;> simp <;> omega
  · simp; omega
theorem ltC_not (Qc : Int × Bool → Int) (a b : Cd) : ltOf (cfC Qc) a b = false ↔ ¬ ltC Qc a b := by
  rw [← ltC_iff]; simp
theorem tw_inj (a b : Cd) (h : tw (sd a) = tw (sd b)) : a = b := by
  obtain ⟨⟨n, hn⟩, x⟩ := a
  obtain ⟨⟨m, hm⟩, y⟩ := b
  unfold tw sd at h
  simp only at h
  cases x <;> cases y <;> simp at h ⊢ <;> omega
theorem swoC (Qc : Int × Bool → Int) : SWO (ltOf (cfC Qc)) := {
  irrefl := fun x => by rw [ltC_not]; unfold ltC; omega
  trans := fun x y z h1 h2 => by rw [ltC_iff] at *; unfold ltC at *; omega
  ntrans := fun x y z h1 h2 => by rw [ltC_not] at *; unfold ltC at *; omega }
def leC (Qc : Int × Bool → Int) (x y : Cd) : Bool := !ltOf (cfC Qc) y x
theorem sortC_any (Vc : Int × Bool → Value) (Qc : Int × Bool → Int) (hV : ∀ s, (Vc s).oneCell' = true) (hQ : ∀ s, 0 ≤ Qc s ∧ Qc s ≤ 100000) (L : List Cd) (n : Nat) (hn : L.length = n) (h2 : n ≤ 100000) (base g o cap : Nat) (w : World) (hown : OwnR w base 112 4 (.slice (some ⟨g, o, none⟩) n cap) n (L.flatMap (encC Vc Qc))) :
    Calls Tryz.prog 58 #[.slice (some ⟨g, o, none⟩) n cap, .func (.func 59) #[] #[]] w fun e w' => e = .returned (.tuple #[]) ∧ OwnR w' base 112 4 (.slice (some ⟨g, o, none⟩) n cap) n ((L.mergeSort (leC Qc)).flatMap (encC Vc Qc)) ∧ (∀ j, j < w.heap.size → j ≠ g → w'.heap[j]? = w.heap[j]?) ∧ w.heap.size ≤ w'.heap.size ∧ w'.os = w.os ∧ w'.tape = w.tape ∧ w'.output = w.output := by
  have eg : ∀ args w, (callFunc 59 args).run Tryz.prog w = .ok (.enter 59 args) w := enter_of Tryz.func59 (by kernel_rfl) rfl
  have hk : ∀ x, (encC Vc Qc x).length = 4 := fun _ => rfl
  have hH := hown.holdsK hk (by omega) hn
  have hc : CmpLays Tryz.prog 59 #[] (encC Vc Qc) 4 (cfC Qc) g o L.toArray.size w := fun _ _ _ _ x y =>
    (ccomp_any (x.1.val : Int) (y.1.val : Int) x.2 y.2 (Vc (sd x)) (Vc (sd y)) (Qc (sd x)) (Qc (sd y)) _ (by have := x.1.isLt; omega) (by have := y.1.isLt; omega) (hQ _) (hQ _) (hV _) (hV _)).mono (fun e w' h => ⟨h.1, h.2⟩)
  have hcon := AnyQ.slices_SortFunc_total Tryz.sortC 4 Tryz.isAgg112 Tryz.sizeOf112 (encC Vc Qc) hk (fun x v hv => by simp [encC] at hv; rcases hv with rfl | rfl | rfl | rfl <;> first | rfl | exact hV _) (cfC Qc) (swoC Qc) 59 #[] g o cap L.toArray w eg hc hH.1 hH.2 (by simp; omega) (fun x y h1 h2 => by
    rw [ltC_not] at h1 h2
    unfold ltC at h1 h2
    exact tw_inj x y (by omega))
  change Calls Tryz.prog 58 _ _ _ at hcon
  have hsz : L.toArray.size = n := by simpa using hn
  rw [hsz] at hcon
  refine hcon.mono ?_
  rintro e w' ⟨rfl, m, os, rfl⟩
  exact ⟨rfl, hown.sortedK hk (by omega) hn (by rw [List.length_mergeSort]; exact hn)⟩
end Go.Proofs.YtilcmkiihefkkabGreatDoor.Mn
end
