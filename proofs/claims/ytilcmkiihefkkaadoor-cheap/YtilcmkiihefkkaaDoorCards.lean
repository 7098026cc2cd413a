/-
  DERIVED. GIVEN WITH THE SEED: THE CARDS: each row of YtilcmkiihefkkaaDoorRows.lean that lists a variable, with what it lists TIED to the program's text (the seventh form; the later family's looks); each row that meets fmt, with fmt's text TOLD by the authors' own Lean function (tested against real Go, not proved from fmt's source: count such statements apart). THE CARD IS WHAT COUNTS. Prove the row's statement (the work); the ties are given (YtilcmkiihefkkaaDoorTie.lean); close each card by the builder's one call (the guide's Derived/Test/ToyasCard.lean, 'card_holds'). Laid BY PROGRAM, IN A SANDBOX (cutbox-door.mjs). By AI agents, Wed Nov 11 2026. No macro, syntax, notation, axiom, sorry.
-/
import Derived.Test.YtilcmkiihefkkaaDoorRows
import GoSem.ClaimSeven
namespace Go.Proofs.YtilcmkiihefkkaaDoor
namespace Rows

/-- THE TIED CARD OF 'pilgrimlaw.Scripts'. -/
def scriptsCard : Claim7 := { stood := { row := scriptsRow, standIns := [], harness := (true, "ae7719e381aaf311c256d3057edbd802a135923c1b53370c1fe23619a6b90529"), looks := false }, kinds := [], alts := [], laidByText := true, laidKinds := [.data, .data, .data], laidTests := true, laidLooks := .later }
def ScriptsCardSaid : Prop := Claim7.holds Tryd.pinned (.plain (OpenSpec.ofChange scriptsSpec)) scriptsCard

/-- THE TIED CARD OF 'pilgrimlaw.Cheap'. -/
def cheapCard : Claim7 := { stood := { row := cheapRow, standIns := [], harness := (true, "ae7719e381aaf311c256d3057edbd802a135923c1b53370c1fe23619a6b90529"), looks := false }, kinds := [], alts := [], laidByText := true, laidKinds := [.data, .data, .data], laidTests := true, laidLooks := .later }
def CheapCardSaid : Prop := Claim7.holds Tryd.pinned (.plain (OpenSpec.ofChange cheapSpec)) cheapCard

/-- THE SECOND FORM's CARD OF 'pilgrimlaw.Scripts'. -/
def scriptsUptoCard : Claim7 := { stood := { row := scriptsUptoRow, standIns := [], harness := (true, "ae7719e381aaf311c256d3057edbd802a135923c1b53370c1fe23619a6b90529"), looks := false }, kinds := [], alts := [], laidByText := true, laidKinds := [.data, .data, .data], laidTests := true, laidLooks := .later }
def ScriptsUptoCardSaid : Prop := Claim7.holds Tryd.pinned (.plain (OpenSpec.upto scriptsSpec)) scriptsUptoCard

/-- THE SECOND FORM's CARD OF 'pilgrimlaw.Cheap'. -/
def cheapUptoCard : Claim7 := { stood := { row := cheapUptoRow, standIns := [], harness := (true, "ae7719e381aaf311c256d3057edbd802a135923c1b53370c1fe23619a6b90529"), looks := false }, kinds := [], alts := [], laidByText := true, laidKinds := [.data, .data, .data], laidTests := true, laidLooks := .later }
def CheapUptoCardSaid : Prop := Claim7.holds Tryd.pinned (.plain (OpenSpec.upto cheapSpec)) cheapUptoCard
end Rows
end Go.Proofs.YtilcmkiihefkkaaDoor
