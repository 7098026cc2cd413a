import Derived.Test.YtilcmkiihefkkaaDoorSeA
import Derived.Lib.AppendIntMem
import Derived.Lib.ItoaLen
set_option linter.unusedVariables false
set_option linter.unusedSimpArgs false
set_option maxRecDepth 100000
namespace Go.Proofs.YtilcmkiihefkkaaDoor
open Go.RowKit Go.Shelf Go.Lib Go.Sort

/-- the letter of a number -/
def ltr (l : Nat) : UInt8 := ([77, 73, 68] : List UInt8).getD l 0

/-- runs as a text -/
def rtxt (ps : List (Nat × Nat)) : List UInt8 := ps.flatMap fun p => decDigits p.1 ++ [ltr p.2]

theorem rtxt_append (a : List (Nat × Nat)) (p : Nat × Nat) : rtxt (a ++ [p]) = rtxt a ++ (decDigits p.1 ++ [ltr p.2]) := by simp [rtxt]

theorem rl_len (L : List Nat) : ∀ k, (rl L k).2.length ≤ k
  | 0 => Nat.le_refl _
  | k + 1 => by
    rw [rl]
    split
    · simp; exact rl_len L k
    · have := rl_len L k; omega

theorem rtxt_len : ∀ (ps : List (Nat × Nat)), (∀ p ∈ ps, p.1 ≤ 1000) → (rtxt ps).length ≤ 30 * ps.length
  | [], _ => by simp [rtxt]
  | p :: ps, h => by
    have ih := rtxt_len ps (fun q hq => h q (List.mem_cons_of_mem _ hq))
    have hp := h p (List.mem_cons_self ..)
    have hi := itoa_length_le (p.1 : Int) (by omega) (by omega)
    rw [itoa_nonneg] at hi
    have e : rtxt (p :: ps) = decDigits p.1 ++ [ltr p.2] ++ rtxt ps := by simp [rtxt]
    rw [e]
    simp only [List.length_append, List.length_cons, List.length_nil]
    omega

theorem ltr_get (l : Nat) (h : l < (⟨#[77, 73, 68]⟩ : ByteArray).size) : (⟨#[77, 73, 68]⟩ : ByteArray)[l] = ltr l := by
  have : l < 3 := h
  rcases (show l = 0 ∨ l = 1 ∨ l = 2 by omega) with rfl | rfl | rfl <;> rfl

theorem Tryd.info5 : (Tryd.prog.info? 5).map (fun i => (i.zero, i.size, i.bytes)) = some (some (.int .u8 0), 1, 1) := by kernel_rfl

theorem conv_bytes (w : World) (base : Nat) (v : Value) (bs : List UInt8) (h : w.ownsRow base 5 1 v bs.length (Lib.byteCells bs)) :
    (convert 57 9 v).run Tryd.prog w = .ok (.string ⟨bs.toArray⟩) w := by
  rcases h.2 with ⟨rfl, hz⟩ | ⟨g, cap, cur, rfl, _, hg, _, _, _, hx⟩
  · obtain rfl : bs = [] := List.eq_nil_of_length_eq_zero hz
    exact run_convert_bytes_nil w 57 5 Tryd.underlying57 Tryd.underlying5 0 0 9 Tryd.underlying9
  · have := run_convert_bytes_back (P := Tryd.prog) w 57 9 5 ⟨g, 0, none⟩ cap bs Tryd.underlying57 Tryd.underlying5 Tryd.underlying9 (by
      intro j hj
      rw [Addr.add_lit, cell_of_row w g _ cur 5 (0, 0) hg, Nat.zero_add]
      have hq : (cur.toList.take (bs.length * 1))[j]? = some (.int .u8 (bs[j].toNat : Int)) := by
        rw [hx]; simp [Lib.byteCells, hj]
      rw [List.getElem?_take] at hq
      split at hq
      · simpa using hq
      · exact absurd hq (by simp))
    simpa using this
end Go.Proofs.YtilcmkiihefkkaaDoor
