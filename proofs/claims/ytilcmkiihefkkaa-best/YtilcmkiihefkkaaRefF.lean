import Derived.Test.YtilcmkiihefkkaaProg
import Derived.Test.YtilcmkiihefkkaaRefE
import Derived.WalkKit
import Derived.WalkSpells
import Derived.WalkLawsBesides
import Derived.RegionTactic
import Derived.ChangeAlike
import Derived.BigRegion
import Derived.Below
set_option linter.unusedVariables false
set_option linter.unusedSimpArgs false
namespace Go.Proofs.Ytilcmkiihefkkaa
open Go.RowKit

set_option maxHeartbeats 400000 in
theorem rquarters_any (a b : Int × Int) (k : Int) (w : World) (ha : okA a) (hb : okA b) (hf : fol a b) (hk1 : 1 ≤ k) (hk2 : k ≤ 12) :
    Calls Try.prog 44 #[.agg #[.int .i64 a.1, .int .i64 a.2], .agg #[.int .i64 b.1, .int .i64 b.2], .int .i64 k] w fun e w' => e = .returned (.int .i64 (qtr a b k)) ∧ Below w.heap.size w w' := by
  obtain ⟨ar, ap⟩ := a
  obtain ⟨br, bp⟩ := b
  obtain ⟨a1, a2, a3, a4⟩ := ha
  obtain ⟨b1, b2, b3, b4⟩ := hb
  obtain ⟨f1, f2⟩ := hf
  simp only at a1 a2 a3 a4 b1 b2 b3 b4 f1 f2
  have al : ∀ (o p : Obj), Below w.heap.size w ((w.alloc o).alloc p) := fun o p => ((Below.refl _ w).alloc (Nat.le_refl _) o).alloc (by simp) p
  have HA : Hid (∀ (o p : Obj), Below w.heap.size w ((w.alloc o).alloc p)) := al
  clear al
  obtain ⟨d, hd⟩ : ∃ d : Nat, (d : Int) = apt (bp - ap) (br - ar) := ⟨(apt (bp - ap) (br - ar)).toNat, by unfold apt; omega⟩
  have hbl := bitLen_le20 d (by unfold apt at hd; omega)
  obtain ⟨B, hB⟩ : ∃ B, B = Go.Lib.bitLen d := ⟨_, rfl⟩
  have hc : ∀ (x : Int) W, x = d → Calls Try.prog 64 #[.int .i64 x] W fun e w' => e = .returned (.int .i64 (B : Nat)) ∧ w' = W := fun x W hx => by rw [hB, hx]; exact rbitsOf_any d W (by unfold apt at hd; omega)
  have HQ : Hid (∀ r : Int, r = 4 * lst (bp - ap) (br - ar) k - d - 2 * B → r = qtr (ar, ap) (br, bp) k) := by
    intro r hr
    rw [hr]
    unfold qtr
    simp only
    rw [← hd, Int.toNat_natCast, ← hB]
  rw [← hB] at hbl
  clear hB
  unfold lst at HQ
  unfold apt at hd
  go_enter Try.func44, Try.ntmps44
  go_wp2_with (go_at_call 64; refine (hc _ _ (by omega)).mono ?_; rintro e w' ⟨rfl, rfl⟩)
  all_goals (go_ret; exact ⟨congrArg (fun i => Ending.returned (.int .i64 i)) (HQ.out _ (by omega)), HA.out _ _⟩)
end Go.Proofs.Ytilcmkiihefkkaa
