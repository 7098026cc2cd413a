import Derived.Test.YtilcmkiihefkkaaRPar
set_option linter.unusedVariables false
set_option linter.unusedSimpArgs false
set_option maxRecDepth 100000
namespace Go.Proofs.Ytilcmkiihefkkaa
open Go.RowKit

theorem OwnR.form {w : World} {base : Nat} {e : TypeId} {size : Nat} {v : Value} {n : Nat} {xs : List Value} (h : OwnR w base e size v n xs) : ∃ ao c, v = .slice ao n c := by
  rcases h.2 with ⟨rfl, rfl⟩ | ⟨g, o, cap, cur, rfl, _⟩
  · exact ⟨_, _, rfl⟩
  · exact ⟨_, _, rfl⟩

/-- the letter of a number -/
def letB (m : Nat) : UInt8 := ([65, 67, 71, 84, 78] : List UInt8).getD m 0

theorem letB_get (m : Nat) (h : m < (⟨#[65, 67, 71, 84, 78]⟩ : ByteArray).size) : (⟨#[65, 67, 71, 84, 78]⟩ : ByteArray)[m] = letB m := by
  have : m < 5 := h
  rcases (show m = 0 ∨ m = 1 ∨ m = 2 ∨ m = 3 ∨ m = 4 by omega) with rfl | rfl | rfl | rfl | rfl <;> rfl

theorem letB_numb (c : UInt8) (h : 0 ≤ numb c) : letB (numb c).toNat = c := by
  rcases numb_cases c with ⟨rfl, _⟩ | ⟨rfl, _⟩ | ⟨rfl, _⟩ | ⟨rfl, _⟩ | ⟨rfl, _⟩ | ⟨h', _⟩
  · rfl
  · rfl
  · rfl
  · rfl
  · rfl
  · omega

theorem byte_oneCell (x : Int) : ∀ u ∈ ([.int .u8 x] : List Value), u.oneCell' = true := by
  intro u hu
  simp at hu
  subst hu
  rfl

/-- what is left when one more base is gathered -/
theorem pbase_end {w W w2 : World} {B base g' o' cap' n nq : Nat} {sv mv bv : Value} {bs : List UInt8} {c : UInt8} {ob : Obj}
    (hltB : B < w.heap.size) (hn : bs.length = n)
    (hW : W = (w.drewN nq).alloc ob)
    (hB2 : w2.heap[B]? = some (.cells #[sv, mv, bv] 74 (0, 0)))
    (hown : OwnR w2 base 5 1 (.slice (some ⟨g', o', none⟩) (n + 1) cap') (n + 1) (Lib.byteCells bs ++ [.int .u8 (c.toNat : Int)])) (hfr : AppFr W w2 bv g') :
    ∃ bv', OwnR (w2.setCell ⟨B, 2, none⟩ (.slice (some ⟨g', o', none⟩) (n + 1) cap')) base 5 1 bv' (bs ++ [c]).length (Lib.byteCells (bs ++ [c])) ∧
      (w2.setCell ⟨B, 2, none⟩ (.slice (some ⟨g', o', none⟩) (n + 1) cap')).heap[B]? = some (.cells #[sv, mv, bv'] 74 (0, 0)) ∧
      PFr w (w2.setCell ⟨B, 2, none⟩ (.slice (some ⟨g', o', none⟩) (n + 1) cap')) bv bv' B := by
  subst hW
  have hU := Upd.of_setCell (i := 2) (.slice (some ⟨g', o', none⟩) (n + 1) cap') hB2
  have hne : (Value.slice (some ⟨g', o', none⟩) (n + 1) cap').ownBlock ≠ some B := hown.tag (by decide) hB2
  have hfs := hfr.size
  simp at hfs
  have hws : (w.drewN nq).heap.size = w.heap.size := rfl
  refine ⟨.slice (some ⟨g', o', none⟩) (n + 1) cap', ?_, hU.here, ⟨?_, ?_, ?_, ?_, ?_, ?_⟩⟩
  · have e : Lib.byteCells (bs ++ [c]) = Lib.byteCells bs ++ [.int .u8 (c.toNat : Int)] := by simp [Lib.byteCells]
    rw [e, List.length_append, hn]
    exact hown.other (fun g hg _ => hU.other g (fun e => hne (by rw [hg, e])))
  · exact hU.os.trans hfr.os
  · exact hU.tape.trans hfr.tape
  · exact hU.output.trans hfr.output
  · rw [hU.size]
    omega
  · intro j hj hjB hjo
    rw [hU.other j hjB, hfr.other j (by simp; omega) hjo]
    exact Below.heap_alloc (w.drewN nq) ob j hj
  · intro g hg
    simp only [Value.ownBlock, Option.some.injEq] at hg
    subst hg
    rcases hfr.new with h | h
    · exact Or.inl h
    · right
      have : w.heap.size + 1 ≤ g' := by simpa using h
      omega

set_option maxHeartbeats 1000000 in
set_option maxRecDepth 100000 in
theorem pbase_any (B base m n : Nat) (p : Int) (sv mv bv : Value) (bs : List UInt8) (hnl : bs.length = n) (w : World) (hm : m < 5)
    (hB : w.heap[B]? = some (.cells #[sv, mv, bv] 74 (0, 0))) (hown : OwnR w base 5 1 bv n (Lib.byteCells bs)) (hbase : base ≤ w.heap.size) (hn : n ≤ 1000000000) :
    Calls Try.prog 54 #[.pointer (some ⟨B, 0, none⟩), .int .i64 p, .int .i64 m] w fun e w' => e = .returned (.tuple #[]) ∧
      ∃ bv', OwnR w' base 5 1 bv' (bs ++ [letB m]).length (Lib.byteCells (bs ++ [letB m])) ∧ w'.heap[B]? = some (.cells #[sv, mv, bv'] 74 (0, 0)) ∧ PFr w w' bv bv' B := by
  obtain ⟨i0, hi, hz0, hz1, hz2⟩ := info_parts Try.info5
  obtain ⟨ao, c, rfl⟩ := hown.form
  have hltB := lt_of_block hB
  have hne : (Value.slice ao n c).ownBlock ≠ some B := hown.tag (by decide) hB
  have HNL : Hid (bs.length = n) := hnl
  have HNE : Hid ((Value.slice ao n c).ownBlock ≠ some B) := hne
  have HB : Hid (w.heap[B]? = some (.cells #[sv, mv, .slice ao n c] 74 (0, 0))) := hB
  have c2 : w.cell? ⟨B, 2, none⟩ = some (.slice ao n c) := cell_at hB rfl
  have f2 : w.frozen? ⟨B, 2, none⟩ = false := frozen_of_row _ _ _ _ _ hB
  have ha : ∀ nq ob, ((w.drewN nq).alloc ob).cell? ⟨B, 2, none⟩ = some (.slice ao n c) := fun nq ob => cell_allocN c2 _ nq
  have hm2 : (m : Int) < 5 := by omega
  clear hB hnl hne
  go_enter Try.func54, Try.ntmps54
  go_region_law (refine step_own rfl (.tmp 10) (.tmp 13) 72 rfl 5 i0 _ 1 1 Try.underlying72 hi hz0 hz1 hz2 rfl (by decide) base (.slice ao n c) n (Lib.byteCells bs) (by simp [Act.eval]) (by exact hown.other (fun g _ hlt => Below.heap_alloc (w.drewN _) _ _ hlt)) ⟨w.heap.size, 0, none⟩ 1 [.int .u8 ((⟨#[65, 67, 71, 84, 78]⟩ : ByteArray)[m].toNat : Int)] (by simp [Act.eval]) rfl (by exact box1_cells (w.drewN _) _ _ _ rfl) (byte_oneCell _) (by unfold maxLen; omega) (by omega) (by simp; omega) ?_; intro g' o' cap' w2 hown' hfr; have hB2 : w2.heap[B]? = some (.cells #[sv, mv, .slice ao n c] 74 (0, 0)) := (hfr.other B (by simp; omega) HNE.out).trans ((Below.heap_alloc (w.drewN _) _ _ hltB).trans HB.out); have HB2 : Hid _ := hB2; have q4 := cell_at hB2 (i := 2) rfl; have qf : w2.frozen? ⟨B, 2, none⟩ = false := frozen_of_row w2 _ _ _ _ hB2; clear hB2)
  all_goals go_end0
  all_goals (rw [letB_get m hm] at hown'; exact ⟨rfl, pbase_end hltB HNL.out rfl HB2.out hown' hfr⟩)

end Go.Proofs.Ytilcmkiihefkkaa
