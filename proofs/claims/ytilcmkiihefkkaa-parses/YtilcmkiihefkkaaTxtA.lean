import Derived.Test.YtilcmkiihefkkaaSeqA
set_option linter.unusedVariables false
set_option linter.unusedSimpArgs false
namespace Go.Proofs.Ytilcmkiihefkkaa
open Go.RowKit

/-- so many digits more -/
def mkF : Nat → ByteArray → Nat → ByteArray
  | _, s, 0 => s
  | n, s, j + 1 => mkF (n / 10) (s ++ ⟨#[(48 + n % 10).toUInt8]⟩) j

/-- the text of a mark -/
def mkT (k : Nat) : ByteArray := mkF k ⟨#[109, 97, 114, 107]⟩ 8

set_option maxRecDepth 100000 in
set_option maxHeartbeats 1000000 in
theorem textOf_any (k : Nat) (w : World) (hk : k ≤ 1000) :
    Calls Try.prog 36 #[.int .i64 k] w fun e w' => e = .returned (.string (mkT k)) ∧ Below w.heap.size w w' := by
  go_enter Try.func36, Try.ntmps36
  go_wp2
  go_loopw [0, 3, 4] (fun a x i wx => ∃ (j n : Nat) (s : ByteArray), j ≤ 8 ∧ a = .int .i64 n ∧ n ≤ 1000 ∧ x = .string s ∧ i = .int .i64 j ∧ s.size ≤ 4 + j ∧ mkF n s (8 - j) = mkT k ∧ Below w.heap.size w wx) (fun _ _ i _ => 8 - (intOf i).toNat)
  case atStart => exact ⟨0, k, _, by omega, rfl, hk, rfl, rfl, by decide, rfl, Below.refl _ _⟩
  case round =>
    obtain ⟨j, n, s, hj, rfl, hn, rfl, rfl, hsz, heq, hbel⟩ := hrel
    have HEQ : Hid (mkF n s (8 - j) = mkT k) := heq
    have HBL : Hid (Below w.heap.size w wr) := hbel
    clear heq hbel
    by_cases h8 : j < 8
    · have hcv : (convert 72 9 (.slice (some ⟨wr.heap.size, 0, none⟩) 1 1)).run Try.prog (wr.alloc (.cells #[.int .u8 (48 + (n : Int) % 10)] 5)) = .ok (.string ⟨#[(48 + n % 10).toUInt8]⟩) (wr.alloc (.cells #[.int .u8 (48 + (n : Int) % 10)] 5)) := by
        have := run_convert_bytes_back (P := Try.prog) (wr.alloc (.cells #[.int .u8 (48 + (n : Int) % 10)] 5)) 72 9 5 ⟨wr.heap.size, 0, none⟩ 1 [(48 + n % 10).toUInt8] Try.underlying72 Try.underlying5 Try.underlying9 (by
          intro i hi
          have hi0 : i = 0 := by simpa using hi
          subst hi0
          rw [Addr.add_lit, Nat.zero_add, cell_at (heap_alloc_new wr _) rfl]
          have : (48 + n % 10).toUInt8.toNat = 48 + n % 10 := by
            rw [Nat.toUInt8_eq, UInt8.toNat_ofNat']
            omega
          simp only [List.getElem_cons_zero, this]
          congr 2)
        simpa using this
      have HST : Hid (mkF (n / 10) (s ++ ⟨#[(48 + n % 10).toUInt8]⟩) (8 - (j + 1)) = mkT k) := by
        have := HEQ.out
        rw [show 8 - j = (8 - (j + 1)) + 1 by omega, mkF] at this
        exact this
      have hz : (s ++ ⟨#[(48 + n % 10).toUInt8]⟩).size ≤ 4 + (j + 1) := by
        rw [ByteArray.size_append]
        show s.size + 1 ≤ _
        omega
      generalize (48 + n % 10).toUInt8 = u at hcv HST hz
      have hsz' := HBL.out.size
      go_wp2
      go_roundw
      case rel =>
        refine ⟨j + 1, n / 10, _, by omega, ?_, by omega, rfl, by go_num, hz, HST.out, HBL.out.alloc HBL.out.size _⟩
        go_num
      case measure => simp [intOf]; omega
    · obtain rfl : j = 8 := by omega
      go_wp2
      go_ret
      have := HEQ.out
      rw [Nat.sub_self, mkF] at this
      rw [this]
      exact ⟨rfl, HBL.out⟩
end Go.Proofs.Ytilcmkiihefkkaa
