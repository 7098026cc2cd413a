import Derived.Laws.Externs
import Derived.Test.YtilcmkiihefkkabGreatDoorJk26
section
set_option linter.unusedVariables false
set_option linter.unusedSimpArgs false
set_option maxRecDepth 100000
namespace Go.Proofs.YtilcmkiihefkkabGreatDoor.Mn
open Go.RowKit
theorem wnumber_any (n k : Nat) (L : List UInt8) (base B : Nat) (w : World) (h : WrP w base B L) (hn : n ≤ 1000000000) (hk : k ≤ 8) (hl : L.length + k ≤ 1000000000) :
    Calls Tryz.prog 21 #[.pointer (some ⟨B, 0, none⟩), .int .i64 n, .int .i64 k] w fun e w' => e = .returned (.tuple #[]) ∧ Wrote base B (L ++ wrB n k) w w' := by
  have cP := wpattern_any n k L base B w h (by omega) hk hl
  have e1 : IntKind.u64.wrap (n : Int) = n := by rw [IntKind.wrap_u64]; omega
  go_enter Tryz.func21, Tryz.ntmps21
  go_wp2_with fail
  refine cP.mono ?_
  rintro e w1 ⟨rfl, hW⟩
  go_wp2
  go_end0
  exact ⟨rfl, hW⟩
theorem run_fbits (sc : Nat) (w : World) : (callFunc 36 #[.float .f64 sc]).run Tryz.prog w = .ok (.value (.int .u64 sc)) w := by
  rw [run_callFunc_extern (e := Extern.MathFloatBits.float64bits) Tryz.func36 (by kernel_rfl) (by kernel_rfl) (by kernel_rfl) (by kernel_rfl)]
  rfl
set_option maxHeartbeats 1000000 in
theorem woptions_any (k W sc : Nat) (L : List UInt8) (base B : Nat) (w : World) (h : WrP w base B L) (hk : k ≤ 1000) (hW : W ≤ 1000) (hs : sc < 18446744073709551616) (hl : L.length + 10 ≤ 1000000000) :
    Calls Tryz.prog 20 #[.pointer (some ⟨B, 0, none⟩), .agg #[.int .i64 k, .int .i64 W, .float .f64 sc]] w fun e w' => e = .returned (.tuple #[]) ∧ Wrote base B (L ++ optB8 k W sc) w w' := by
  have hbits := fun W' => run_fbits sc W'
  obtain ⟨wA, hwA⟩ : ∃ W1 : World, W1 = w.alloc (Obj.cells #[.int .i64 k, .int .i64 W, .float .f64 sc] 24) := ⟨_, rfl⟩
  have hbA : Below w.heap.size w wA := by rw [hwA]; exact (Below.refl _ _).alloc (Nat.le_refl _) _
  have hnA : wA.heap[w.heap.size]? = some (.cells #[.int .i64 k, .int .i64 W, .float .f64 sc] 24 (0, 0)) := by rw [hwA]; exact heap_alloc_new w _
  have hA := (Wrote.refl h).more hbA
  have hk0 : ∀ {w' : World}, WrK wA w' → w'.heap[w.heap.size]? = some (.cells #[.int .i64 k, .int .i64 W, .float .f64 sc] 24 (0, 0)) := fun h' => (h' _ (fun cs hc => by rw [hnA] at hc; simp at hc) (fun cs hc => by rw [hnA] at hc; simp at hc) (lt_of_block hnA)).trans hnA
  have c1 := wnumber_any k 1 L base B wA hA.wp (by omega) (by omega) (by omega)
  have q0 : wA.cell? ⟨w.heap.size, 0, none⟩ = some (.int .i64 k) := cell_at hnA rfl
  have HK := (show Hid _ from @hk0)
  have HA : Hid _ := hA
  clear hk0 hbA hnA hA h
  go_enter Tryz.func20, Tryz.ntmps20
  go_wp2_with fail
  rw [← hwA]
  clear hwA
  refine c1.mono ?_
  rintro e w1 ⟨rfl, hW1⟩
  have q1 : w1.cell? ⟨w.heap.size, 1, none⟩ = some (.int .i64 W) := cell_at (HK.out hW1.kp) rfl
  have c2 := wnumber_any W 1 (L ++ wrB k 1) base B w1 hW1.wp (by omega) (by omega) (by rw [List.length_append, wrB_len]; omega)
  have HW1 : Hid _ := hW1
  clear hW1 c1
  go_wp2_with fail
  refine c2.mono ?_
  rintro e w2 ⟨rfl, hW2⟩
  have hW2' := HW1.out.trans hW2
  have q2 : w2.cell? ⟨w.heap.size, 2, none⟩ = some (.float .f64 sc) := cell_at (HK.out hW2'.kp) rfl
  have c3 := wpattern_any sc 8 (L ++ wrB k 1 ++ wrB W 1) base B w2 hW2.wp hs (by omega) (by rw [List.length_append, List.length_append, wrB_len, wrB_len]; omega)
  have HW2 : Hid _ := hW2'
  clear hW2 hW2' c2 HW1
  go_wp2_with fail
  refine c3.mono ?_
  rintro e w3 ⟨rfl, hW3⟩
  have HW3 : Hid _ := HA.out.trans (HW2.out.trans hW3)
  clear hW3 c3
  go_wp2
  go_end0
  refine ⟨rfl, ?_⟩
  have := HW3.out
  rw [List.append_assoc, List.append_assoc, ← List.append_assoc (wrB k 1)] at this
  exact this
set_option maxHeartbeats 1000000 in
theorem wreference_any (x : S2) (L : List UInt8) (base B : Nat) (w : World) (h : WrP w base B L) (hl : L.length + x.n.size + x.b.size + 3 ≤ 1000000000) :
    Calls Tryz.prog 22 #[.pointer (some ⟨B, 0, none⟩), .agg #[.string x.n, .string x.b]] w fun e w' => e = .returned (.tuple #[]) ∧ Wrote base B (L ++ refB x) w w' := by
  obtain ⟨wA, hwA⟩ : ∃ W1 : World, W1 = w.alloc (Obj.cells #[.string x.n, .string x.b] 62) := ⟨_, rfl⟩
  have hbA : Below w.heap.size w wA := by rw [hwA]; exact (Below.refl _ _).alloc (Nat.le_refl _) _
  have hnA : wA.heap[w.heap.size]? = some (.cells #[.string x.n, .string x.b] 62 (0, 0)) := by rw [hwA]; exact heap_alloc_new w _
  have hA := (Wrote.refl h).more hbA
  have hk0 : ∀ {w' : World}, WrK wA w' → w'.heap[w.heap.size]? = some (.cells #[.string x.n, .string x.b] 62 (0, 0)) := fun h' => (h' _ (fun cs hc => by rw [hnA] at hc; simp at hc) (fun cs hc => by rw [hnA] at hc; simp at hc) (lt_of_block hnA)).trans hnA
  have c1 := wnumber_any x.n.size 1 L base B wA hA.wp (by omega) (by omega) (by omega)
  have q0 : wA.cell? ⟨w.heap.size, 0, none⟩ = some (.string x.n) := cell_at hnA rfl
  have HK := (show Hid _ from @hk0)
  have HA : Hid _ := hA
  clear hk0 hbA hnA hA h
  go_enter Tryz.func22, Tryz.ntmps22
  go_wp2_with fail
  rw [← hwA]
  clear hwA
  refine c1.mono ?_
  rintro e w1 ⟨rfl, hW1⟩
  have q1 : w1.cell? ⟨w.heap.size, 0, none⟩ = some (.string x.n) := cell_at (HK.out hW1.kp) rfl
  have c2 := wtext_any x.n (L ++ wrB x.n.size 1) base B w1 hW1.wp (by rw [List.length_append, wrB_len]; omega)
  have HW1 : Hid _ := hW1
  clear hW1 c1
  go_wp2_with fail
  refine c2.mono ?_
  rintro e w2 ⟨rfl, hW2⟩
  have hW2' := HW1.out.trans hW2
  have q2 : w2.cell? ⟨w.heap.size, 1, none⟩ = some (.string x.b) := cell_at (HK.out hW2'.kp) rfl
  have hsz : x.n.data.toList.length = x.n.size := rfl
  have c3 := wnumber_any x.b.size 2 (L ++ wrB x.n.size 1 ++ x.n.data.toList) base B w2 hW2.wp (by omega) (by omega) (by rw [List.length_append, List.length_append, wrB_len, hsz]; omega)
  have HW2 : Hid _ := hW2'
  clear hW2 hW2' c2 HW1
  go_wp2_with fail
  refine c3.mono ?_
  rintro e w3 ⟨rfl, hW3⟩
  have hW3' := HW2.out.trans hW3
  have q3 : w3.cell? ⟨w.heap.size, 1, none⟩ = some (.string x.b) := cell_at (HK.out hW3'.kp) rfl
  have c4 := wtext_any x.b (L ++ wrB x.n.size 1 ++ x.n.data.toList ++ wrB x.b.size 2) base B w3 hW3.wp (by rw [List.length_append, List.length_append, List.length_append, wrB_len, wrB_len, hsz]; omega)
  have HW3 : Hid _ := hW3'
  clear hW3 hW3' c3 HW2 hsz
  go_wp2_with fail
  refine c4.mono ?_
  rintro e w4 ⟨rfl, hW4⟩
  have HW4 : Hid _ := HA.out.trans (HW3.out.trans hW4)
  clear hW4 c4
  go_wp2
  go_end0
  refine ⟨rfl, ?_⟩
  have e1 : L ++ refB x = L ++ wrB x.n.size 1 ++ x.n.data.toList ++ wrB x.b.size 2 ++ x.b.data.toList := by unfold refB; simp only [List.append_assoc]
  rw [e1]
  exact HW4.out
end Go.Proofs.YtilcmkiihefkkabGreatDoor.Mn
end
