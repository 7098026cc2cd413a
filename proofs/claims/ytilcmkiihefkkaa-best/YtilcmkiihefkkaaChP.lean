import Derived.Test.YtilcmkiihefkkaaRows
import Derived.Test.YtilcmkiihefkkaaChW
import Derived.WalkKit
import Derived.ProofKit
import Derived.OpenShut
import Derived.ChangeOld
import Derived.Below
import Derived.Carry
import Derived.SizedLaws
import Derived.Deep.SlicePairs
import Derived.Lib.RowBridge
set_option linter.unusedVariables false
set_option linter.unusedSimpArgs false
namespace Go.Proofs.Ytilcmkiihefkkaa
open Go.ChangeShapes Go.WideShapes Go.ChangeAt Go.RowKit

theorem Try.ownC : ownKnob Try.prog.godebug = none := by kernel_rfl
theorem Try.laidC : laidOutB Try.prog = true := by kernel_rfl
theorem Try.cells62 : Try.prog.cellsOf 62 = 2 := by kernel_rfl
theorem Try.bytes62 : Try.prog.bytesOf 62 = 16 := by kernel_rfl
theorem Try.cells3 : Try.prog.cellsOf 3 = 1 := by kernel_rfl

/-- the anchors that the cells hold -/
def ancs (V0 V1 : Nat → Value) (n : Nat) : List (Int × Int) := (List.range n).map fun i => (intOf (V0 i), intOf (V1 i))

theorem ancs_length (V0 V1 : Nat → Value) (n : Nat) : (ancs V0 V1 n).length = n := by simp [ancs]
theorem ancs_get (V0 V1 : Nat → Value) (n j : Nat) (h : j < (ancs V0 V1 n).length) : (ancs V0 V1 n)[j] = (intOf (V0 j), intOf (V1 j)) := by simp [ancs]

set_option maxHeartbeats 800000 in
set_option maxRecDepth 100000 in
theorem chains_lifted (os : Os) (started : os.Started) (H : Type) (enc : TypeId × Value → H) :
    ReturnsInHanded {} Try.checked os 7 .any (Rows.chainsSpec.pre6 enc Try.prog Try.f7 Rows.chainsRow.domain false) (Rows.chainsSpec.post enc Try.prog Try.f7 false true false false) := by
  refine returnsInHanded_of_change_sized (C := Try.checked) Try.ownC started (by kernel_rfl) Try.func7
    (ChangeSpec.witness6 (enc := enc) (C := Try.checked) false ⟨#[], #[.slice none 0 0, .int .i64 0], []⟩ 8 (by kernel_rfl) (by kernel_rfl) (by kernel_rfl) (by kernel_rfl)) ?_
  intro W base args ds gs before hval0 hW _ hsz0 _
  have hsz : (DataW.weightsEach Try.prog (Try.f7.params.toList ++ Rows.chainsSpec.plain.varTypes Try.prog) (ds ++ gs)).all (· ≤ reachBytes) = true := hsz0
  clear hsz0
  have hval : ∀ (j : Nat) t v, Try.f7.params[j]? = some t → args[j]? = some v → Value.okWide Try.prog W .any base t v := hval0
  have hW' := hW
  obtain ⟨p, q, hA0, hV, rfl, _, _⟩ := hW
  have hA : DataW.TrodAll enc Try.prog W 0 (fun _ => true) true Try.f7.params.toList args.toList ds p := hA0
  rw [Try.params7] at hA hval hsz
  obtain ⟨v0, v1, d0, d1, p0, p1, rfl, rfl, rfl, h0, h1⟩ := trodAll_two hA
  obtain ⟨rfl, rfl⟩ := trodVars_none hV
  have h1k := h1
  obtain ⟨x, rfl, rfl, rfl, wx⟩ := open_int Try.underlying3 (hval 1 3 v1 rfl rfl) h1
  obtain ⟨a0, len, cap, rfl⟩ := okWide_slice Try.underlying52 (hval 0 52 v0 rfl rfl)
  have h0k := h0
  obtain ⟨fuel, hf⟩ := h0
  clear hA0 hval0
  simp only [List.append_nil] at hW'
  have hlt : ∀ y ∈ p0, y.block < W.heap.size := fun y hy => by simpa using hW'.lt y (by simp [hy])
  have harg0 : ∀ W' : World, Below W.heap.size W W' → DataW.Trod enc Try.prog W' 0 (fun b => decide (b < W.heap.size)) true 52 (.slice a0 len cap) d0 p0 :=
    fun W' hn => Below.trod Try.laidC (by kernel_rfl) (of_decide_eq_true (by kernel_rfl)) h0k hn hlt
  have harg1 : ∀ W' : World, Below W.heap.size W W' → DataW.Trod enc Try.prog W' 0 (fun b => decide (b < W.heap.size)) true 3 (.int .i64 x) (.lit (.int .i64 x)) [] :=
    fun W' hn => Below.trod Try.laidC (by kernel_rfl) (of_decide_eq_true (by kernel_rfl)) h1k hn (fun y hy => by cases hy)
  obtain ⟨L, hL, hLb, hR, hnil⟩ : ∃ L : List (Int × Int), L.length = len ∧ len ≤ 8796093022208 ∧ RdA W a0 L ∧ (a0 = none → len = 0) := by
    rcases Go.Deep.open_slice_pairs Try.underlying52 Try.underlying62 Try.cells62 rfl rfl Try.cells3 Try.cells3 hf with ⟨hcs, hx⟩ | ⟨a, len', cap', m, n, V0, V1, D0, D1, P0, P1, hcs, _, hl, hmx, hm, hx, hcell⟩
    · simp [Value.cells] at hcs
      obtain ⟨rfl, rfl, rfl⟩ := hcs
      exact ⟨[], rfl, by omega, Or.inl rfl, fun _ => rfl⟩
    · simp [Value.cells] at hcs
      obtain ⟨rfl, rfl, rfl⟩ := hcs
      simp only [Prod.mk.injEq] at hx
      obtain ⟨hd0, hp0⟩ := hx
      simp only [if_true] at hm
      have hreach : len ≤ 8796093022208 := by
        rw [hd0] at hsz
        have := sized_slice hsz (j := 0) (t := 52) (e := 62) rfl rfl Try.underlying52
        rw [Try.bytes62] at this
        simp only [List.length_map, List.length_range, reachBytes] at this
        omega
      refine ⟨ancs V0 V1 len, ancs_length _ _ _, hreach, ?_, fun h => by cases h⟩
      obtain ⟨b, off, spot⟩ := a
      by_cases hz0 : m = 0
      · left
        have : len = 0 := by omega
        rw [this]; rfl
      · have hspot : spot = none := by simpa [Addr.add] using World.cell?_spot (hcell 0 (by omega)).1
        subst hspot
        right
        have hc0 := (hcell 0 (by omega)).1
        rw [add_plain] at hc0
        refine ⟨b, off, rfl, block_lt_of_cell hc0, fun j hj => ?_⟩
        rw [ancs_length] at hj
        obtain ⟨c1, c2, t1, t2⟩ := hcell j (by omega)
        obtain ⟨z1, hz1, _, _⟩ := DataW.trod_int Try.underlying3 t1
        obtain ⟨z2, hz2, _, _⟩ := DataW.trod_int Try.underlying3 t2
        simp only [List.cons.injEq, and_true] at hz1 hz2
        rw [ancs_get, hz1, hz2]
        rw [add_plain, hz1] at c1
        rw [add_plain, hz2] at c2
        exact ⟨c1, by rw [show off + j * 2 + 1 = off + (j * 2 + 1) by omega]; exact c2⟩
  refine (chains_any L len hL a0 cap x W hLb hR hnil).mono fun e W' ⟨he, hn⟩ => ?_
  subst he
  exact ⟨_, rfl, _, _, _, [], _, [], hW', trodAll_mk1 (shut_bool Try.underlying4 _), trodAll_mk2 (harg0 _ hn) (harg1 _ hn), rfl, hn.frame _, fun h => by cases h⟩

theorem chains_holds : Rows.ChainsSaid :=
  OpenClaim.holds_of_wide 7 Try.f7 rfl rfl rfl rfl rfl rfl rfl ⟨rfl, rfl, rfl, rfl, rfl⟩ rfl rfl rfl rfl rfl (by kernel_rfl) Try.func7 (by kernel_rfl)
    (of_decide_eq_true (by kernel_rfl)) (by unfold Func.isWrapper; first | (rw [if_pos (by decide +kernel)]; kernel_rfl) | (rw [if_neg (by decide +kernel)]; exact ⟨rfl, rfl⟩))
    (fun os started H enc _ => chains_lifted os started H enc)
#print axioms chains_holds
end Go.Proofs.Ytilcmkiihefkkaa
