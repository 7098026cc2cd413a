/-
  No cell of these rows narrows 'for every input' (looked for: loops, veiled, ifaces, maps, wideKeys, modest, calm, conditions, laid).
  DERIVED. THE GIVEN ROWS OF THIS SEAT. 6 by the template 'for every input the law returns true; each argument reads behind the call as it read before'; 0 by the template 'total and deterministic' (their statements: YtilcmkiihefkkaaTotals.lean).
  GIVEN WITH THE SEED: the statements are not yours to turn. If you find one false, say at which input.
  Laid BY PROGRAM, IN A SANDBOX (cutbox-rows.mjs): the forced cells as the released guide's own fill.sh prints them over the translation 249bff1c38e0d0ed… (all of the seat's roots in one cut). By AI agents, Wed Nov 11 2026. No macro, syntax, notation, axiom, sorry.
-/
import Derived.Test.YtilcmkiihefkkaaChecked
import GoSem.Claim
import GoSem.ClaimJoined
import GoSem.ClaimMapViews
import Derived.JoinedTies
import Derived.KernelRfl
namespace Go.Proofs.Ytilcmkiihefkkaa
/- THE CELL 'sum', in the pinned program and in every row, IS THE sha256 OF THE DUMP (.gsa) THAT YtilcmkiihefkkaaProg.lean LOADS. Nothing in Lean hashes anything: it is a label: what it is worth is what the hold of that sum in a sandbox is worth. -/
noncomputable def Try.pinned : Pinned := { name := "ytilcmkiihefkkaa", sum := "249bff1c38e0d0ed9c9ec8be95c972ca5a0d0d00c0162931005bc71312fc178c", checked := Try.checked }
namespace Rows
def none {H : Type} : Left H := { results := [], args := [] }

/-- 'pilgrimlaw.Parses': WHATEVER THE INPUT: true; the input reads as it did. -/
def parsesSpec : ChangeSpec := { name := "parses", fn := fun _ => fun
  | [d] => { results := [.lit (.bool true)], args := [d] }
  | _ => none }
def parsesRow : OpenClaim := { program := "ytilcmkiihefkkaa", sum := "249bff1c38e0d0ed9c9ec8be95c972ca5a0d0d00c0162931005bc71312fc178c", func := "pilgrim/pilgrimlaw.Parses", spec := "parses", inPlace := ["internal/bytealg.IndexByteString", "internal/bytealg.IndexString"], unfollowed := true, recurses := true, named := ["internal/bytealg.MaxLen"], apart := false }
def ParsesSaid : Prop := parsesRow.holds Try.pinned (OpenSpec.ofChange parsesSpec)

/-- ITS FALSE NEIGHBOUR: 'it returns false'. Refute it at one input. -/
def parsesWrong : ChangeSpec := { name := "parses", fn := fun _ => fun
  | [d] => { results := [.lit (.bool false)], args := [d] }
  | _ => none }
def ParsesWrongFalsely : Prop := parsesRow.holds Try.pinned (OpenSpec.ofChange parsesWrong)

/-- 'pilgrimlaw.Sketches': WHATEVER THE INPUT: true; the input reads as it did. -/
def sketchesSpec : ChangeSpec := { name := "sketches", fn := fun _ => fun
  | [d1, d2, d3] => { results := [.lit (.bool true)], args := [d1, d2, d3] }
  | _ => none }
def sketchesRow : OpenClaim := { program := "ytilcmkiihefkkaa", sum := "249bff1c38e0d0ed9c9ec8be95c972ca5a0d0d00c0162931005bc71312fc178c", func := "pilgrim/pilgrimlaw.Sketches", spec := "sketches", inPlace := ["internal/bytealg.IndexByteString"], unfollowed := true, recurses := true, apart := false }
def SketchesSaid : Prop := sketchesRow.holds Try.pinned (OpenSpec.ofChange sketchesSpec)

/-- ITS FALSE NEIGHBOUR: 'it returns false'. Refute it at one input. -/
def sketchesWrong : ChangeSpec := { name := "sketches", fn := fun _ => fun
  | [d1, d2, d3] => { results := [.lit (.bool false)], args := [d1, d2, d3] }
  | _ => none }
def SketchesWrongFalsely : Prop := sketchesRow.holds Try.pinned (OpenSpec.ofChange sketchesWrong)

/-- 'pilgrimlaw.Windows': WHATEVER THE INPUT: true; the input reads as it did. -/
def windowsSpec : ChangeSpec := { name := "windows", fn := fun _ => fun
  | [d1, d2, d3] => { results := [.lit (.bool true)], args := [d1, d2, d3] }
  | _ => none }
def windowsRow : OpenClaim := { program := "ytilcmkiihefkkaa", sum := "249bff1c38e0d0ed9c9ec8be95c972ca5a0d0d00c0162931005bc71312fc178c", func := "pilgrim/pilgrimlaw.Windows", spec := "windows", inPlace := ["internal/bytealg.IndexByteString"], unfollowed := true, recurses := true, apart := false }
def WindowsSaid : Prop := windowsRow.holds Try.pinned (OpenSpec.ofChange windowsSpec)

/-- ITS FALSE NEIGHBOUR: 'it returns false'. Refute it at one input. -/
def windowsWrong : ChangeSpec := { name := "windows", fn := fun _ => fun
  | [d1, d2, d3] => { results := [.lit (.bool false)], args := [d1, d2, d3] }
  | _ => none }
def WindowsWrongFalsely : Prop := windowsRow.holds Try.pinned (OpenSpec.ofChange windowsWrong)

/-- 'pilgrimlaw.Turns': WHATEVER THE INPUT: true; the input reads as it did. -/
def turnsSpec : ChangeSpec := { name := "turns", fn := fun _ => fun
  | [d1, d2] => { results := [.lit (.bool true)], args := [d1, d2] }
  | _ => none }
def turnsRow : OpenClaim := { program := "ytilcmkiihefkkaa", sum := "249bff1c38e0d0ed9c9ec8be95c972ca5a0d0d00c0162931005bc71312fc178c", func := "pilgrim/pilgrimlaw.Turns", spec := "turns", inPlace := ["internal/bytealg.IndexByteString"], unfollowed := true, recurses := true, apart := false }
def TurnsSaid : Prop := turnsRow.holds Try.pinned (OpenSpec.ofChange turnsSpec)

/-- ITS FALSE NEIGHBOUR: 'it returns false'. Refute it at one input. -/
def turnsWrong : ChangeSpec := { name := "turns", fn := fun _ => fun
  | [d1, d2] => { results := [.lit (.bool false)], args := [d1, d2] }
  | _ => none }
def TurnsWrongFalsely : Prop := turnsRow.holds Try.pinned (OpenSpec.ofChange turnsWrong)

/-- 'pilgrimlaw.Chains': WHATEVER THE INPUT: true; the input reads as it did. -/
def chainsSpec : ChangeSpec := { name := "chains", fn := fun _ => fun
  | [d1, d2] => { results := [.lit (.bool true)], args := [d1, d2] }
  | _ => none }
def chainsRow : OpenClaim := { program := "ytilcmkiihefkkaa", sum := "249bff1c38e0d0ed9c9ec8be95c972ca5a0d0d00c0162931005bc71312fc178c", func := "pilgrim/pilgrimlaw.Chains", spec := "chains", unfollowed := true, recurses := true, apart := false }
def ChainsSaid : Prop := chainsRow.holds Try.pinned (OpenSpec.ofChange chainsSpec)

/-- ITS FALSE NEIGHBOUR: 'it returns false'. Refute it at one input. -/
def chainsWrong : ChangeSpec := { name := "chains", fn := fun _ => fun
  | [d1, d2] => { results := [.lit (.bool false)], args := [d1, d2] }
  | _ => none }
def ChainsWrongFalsely : Prop := chainsRow.holds Try.pinned (OpenSpec.ofChange chainsWrong)

/-- 'pilgrimlaw.Best': WHATEVER THE INPUT: true; the input reads as it did. -/
def bestSpec : ChangeSpec := { name := "best", fn := fun _ => fun
  | [d1, d2, d3] => { results := [.lit (.bool true)], args := [d1, d2, d3] }
  | _ => none }
def bestRow : OpenClaim := { program := "ytilcmkiihefkkaa", sum := "249bff1c38e0d0ed9c9ec8be95c972ca5a0d0d00c0162931005bc71312fc178c", func := "pilgrim/pilgrimlaw.Best", spec := "best", unfollowed := true, recurses := true, apart := false }
def BestSaid : Prop := bestRow.holds Try.pinned (OpenSpec.ofChange bestSpec)

/-- ITS FALSE NEIGHBOUR: 'it returns false'. Refute it at one input. -/
def bestWrong : ChangeSpec := { name := "best", fn := fun _ => fun
  | [d1, d2, d3] => { results := [.lit (.bool false)], args := [d1, d2, d3] }
  | _ => none }
def BestWrongFalsely : Prop := bestRow.holds Try.pinned (OpenSpec.ofChange bestWrong)

/- THE SECOND FORM. 'bulk': how many values and letters a reading holds, each counted each time it is reached (what is shared counts as often as it is met; a slice's spare places count too). A statement '..UptoSaid' is the law's where the arguments, and the package variables that the reading takes, are together of bulk at most 1048576: NARROWER than '..Said'. Prove '..Said' where nothing that the law and all that it calls make is longer than what came in: it says more and counts as full. Else prove '..UptoSaid'. A law counts once. -/
mutual
def uptoBulk {H : Type} : DataW H → Nat
  | .lit (.string bytes) => bytes.length + 1
  | .lit _ => 1
  | .nil => 1
  | .ptr d => uptoBulk d + 1
  | .slice elems spare => uptoBulkAll elems + uptoBulkAll spare + 1
  | .agg parts => uptoBulkAll parts + 1
  | .iface _ d => uptoBulk d + 1
  | .map entries => uptoBulkEntries entries + 1
  | .held _ => 1
def uptoBulkAll {H : Type} : List (DataW H) → Nat
  | [] => 0
  | d :: r => uptoBulk d + uptoBulkAll r
def uptoBulkEntries {H : Type} : List (Lit × DataW H) → Nat
  | [] => 0
  | x :: r => uptoBulkEntry x + uptoBulkEntries r
def uptoBulkEntry {H : Type} : Lit × DataW H → Nat
  | (.string bytes, d) => bytes.length + uptoBulk d + 1
  | (_, d) => uptoBulk d + 1
 end
def uptoSmall : (H : Type) → List (DataW H) → Bool := fun _ ds => decide (uptoBulkAll ds ≤ 1048576)
def OpenSpec.upto (s : _root_.Go.ChangeSpec) : _root_.Go.OpenSpec := { _root_.Go.OpenSpec.ofChange s with cond := some uptoSmall }

/-- 'pilgrimlaw.Parses', WHERE WHAT IT READS IS OF BULK AT MOST 1048576: true; the input reads as it did. -/
def parsesUptoRow : OpenClaim := { program := "ytilcmkiihefkkaa", sum := "249bff1c38e0d0ed9c9ec8be95c972ca5a0d0d00c0162931005bc71312fc178c", func := "pilgrim/pilgrimlaw.Parses", spec := "parses", inPlace := ["internal/bytealg.IndexByteString", "internal/bytealg.IndexString"], unfollowed := true, recurses := true, named := ["internal/bytealg.MaxLen"], apart := false, narrowed := true }
def ParsesUptoSaid : Prop := parsesUptoRow.holds Try.pinned (OpenSpec.upto parsesSpec)

/-- 'pilgrimlaw.Sketches', WHERE WHAT IT READS IS OF BULK AT MOST 1048576: true; the input reads as it did. -/
def sketchesUptoRow : OpenClaim := { program := "ytilcmkiihefkkaa", sum := "249bff1c38e0d0ed9c9ec8be95c972ca5a0d0d00c0162931005bc71312fc178c", func := "pilgrim/pilgrimlaw.Sketches", spec := "sketches", inPlace := ["internal/bytealg.IndexByteString"], unfollowed := true, recurses := true, apart := false, narrowed := true }
def SketchesUptoSaid : Prop := sketchesUptoRow.holds Try.pinned (OpenSpec.upto sketchesSpec)

/-- 'pilgrimlaw.Windows', WHERE WHAT IT READS IS OF BULK AT MOST 1048576: true; the input reads as it did. -/
def windowsUptoRow : OpenClaim := { program := "ytilcmkiihefkkaa", sum := "249bff1c38e0d0ed9c9ec8be95c972ca5a0d0d00c0162931005bc71312fc178c", func := "pilgrim/pilgrimlaw.Windows", spec := "windows", inPlace := ["internal/bytealg.IndexByteString"], unfollowed := true, recurses := true, apart := false, narrowed := true }
def WindowsUptoSaid : Prop := windowsUptoRow.holds Try.pinned (OpenSpec.upto windowsSpec)

/-- 'pilgrimlaw.Turns', WHERE WHAT IT READS IS OF BULK AT MOST 1048576: true; the input reads as it did. -/
def turnsUptoRow : OpenClaim := { program := "ytilcmkiihefkkaa", sum := "249bff1c38e0d0ed9c9ec8be95c972ca5a0d0d00c0162931005bc71312fc178c", func := "pilgrim/pilgrimlaw.Turns", spec := "turns", inPlace := ["internal/bytealg.IndexByteString"], unfollowed := true, recurses := true, apart := false, narrowed := true }
def TurnsUptoSaid : Prop := turnsUptoRow.holds Try.pinned (OpenSpec.upto turnsSpec)

/-- 'pilgrimlaw.Chains', WHERE WHAT IT READS IS OF BULK AT MOST 1048576: true; the input reads as it did. -/
def chainsUptoRow : OpenClaim := { program := "ytilcmkiihefkkaa", sum := "249bff1c38e0d0ed9c9ec8be95c972ca5a0d0d00c0162931005bc71312fc178c", func := "pilgrim/pilgrimlaw.Chains", spec := "chains", unfollowed := true, recurses := true, apart := false, narrowed := true }
def ChainsUptoSaid : Prop := chainsUptoRow.holds Try.pinned (OpenSpec.upto chainsSpec)

/-- 'pilgrimlaw.Best', WHERE WHAT IT READS IS OF BULK AT MOST 1048576: true; the input reads as it did. -/
def bestUptoRow : OpenClaim := { program := "ytilcmkiihefkkaa", sum := "249bff1c38e0d0ed9c9ec8be95c972ca5a0d0d00c0162931005bc71312fc178c", func := "pilgrim/pilgrimlaw.Best", spec := "best", unfollowed := true, recurses := true, apart := false, narrowed := true }
def BestUptoSaid : Prop := bestUptoRow.holds Try.pinned (OpenSpec.upto bestSpec)

end Rows
end Go.Proofs.Ytilcmkiihefkkaa
