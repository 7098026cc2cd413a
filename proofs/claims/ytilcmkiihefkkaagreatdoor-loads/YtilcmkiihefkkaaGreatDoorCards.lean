/-
  DERIVED. GIVEN WITH THE SEED: THE CARDS: each row of YtilcmkiihefkkaaGreatDoorRows.lean that lists a variable, with what it lists TIED to the program's text (the seventh form; the later family's looks); each row that meets fmt, with fmt's text TOLD by the authors' own Lean function (tested against real Go, not proved from fmt's source: count such statements apart). THE CARD IS WHAT COUNTS. Prove the row's statement (the work); the ties are given (YtilcmkiihefkkaaGreatDoorTie.lean); close each card by the builder's one call (the guide's Derived/Test/ToyasCard.lean, 'card_holds'). Laid BY PROGRAM, IN A SANDBOX (cutbox-door.mjs). By AI agents, Wed Nov 11 2026. No macro, syntax, notation, axiom, sorry.
-/
import Derived.Test.YtilcmkiihefkkaaGreatDoorRows
import GoSem.ClaimSeven
namespace Go.Proofs.YtilcmkiihefkkaaGreatDoor
namespace Rows

/-- THE TIED CARD OF 'pilgrimlaw.Finds'. -/
def findsCard : Claim7 := { stood := { row := findsRow, standIns := [], harness := (true, "a3f0a3d7dddd0f40e9b2c302b34ff28a80833b9ecb03a97e3cd0b383ebecd343"), looks := true }, kinds := [], alts := [], laidByText := true, laidKinds := [.data, .data, .data, .sentinel, .sentinel, .data, .pinned], laidTests := true, laidLooks := .later }
def FindsCardSaid : Prop := Claim7.holds Tryz.pinned (.plain (OpenSpec.ofChange findsSpec)) findsCard

/-- THE TIED CARD OF 'pilgrimlaw.Loads'. -/
def loadsCard : Claim7 := { stood := { row := loadsRow, standIns := [], harness := (true, "a3f0a3d7dddd0f40e9b2c302b34ff28a80833b9ecb03a97e3cd0b383ebecd343"), looks := true }, kinds := [], alts := [], laidByText := true, laidKinds := [.data, .data, .data, .sentinel, .sentinel, .data, .pinned], laidTests := true, laidLooks := .later }
def LoadsCardSaid : Prop := Claim7.holds Tryz.pinned (.plain (OpenSpec.ofChange loadsSpec)) loadsCard

/-- THE TIED CARD OF 'pilgrimlaw.Apart'. -/
def apartCard : Claim7 := { stood := { row := apartRow, standIns := [], harness := (true, "a3f0a3d7dddd0f40e9b2c302b34ff28a80833b9ecb03a97e3cd0b383ebecd343"), looks := true }, kinds := [], alts := [], laidByText := true, laidKinds := [.data, .data, .data, .sentinel, .sentinel, .data, .pinned], laidTests := true, laidLooks := .later }
def ApartCardSaid : Prop := Claim7.holds Tryz.pinned (.plain (OpenSpec.ofChange apartSpec)) apartCard

/-- THE TIED CARD OF 'pilgrimlaw.True'. -/
def trueCard : Claim7 := { stood := { row := trueRow, standIns := [], harness := (true, "a3f0a3d7dddd0f40e9b2c302b34ff28a80833b9ecb03a97e3cd0b383ebecd343"), looks := true }, kinds := [], alts := [], laidByText := true, laidKinds := [.data, .data, .data, .sentinel, .sentinel, .data, .pinned], laidTests := true, laidLooks := .later }
def TrueCardSaid : Prop := Claim7.holds Tryz.pinned (.plain (OpenSpec.ofChange trueSpec)) trueCard

/-- THE SECOND FORM's CARD OF 'pilgrimlaw.Finds'. -/
def findsUptoCard : Claim7 := { stood := { row := findsUptoRow, standIns := [], harness := (true, "a3f0a3d7dddd0f40e9b2c302b34ff28a80833b9ecb03a97e3cd0b383ebecd343"), looks := true }, kinds := [], alts := [], laidByText := true, laidKinds := [.data, .data, .data, .sentinel, .sentinel, .data, .pinned], laidTests := true, laidLooks := .later }
def FindsUptoCardSaid : Prop := Claim7.holds Tryz.pinned (.plain (OpenSpec.upto findsSpec)) findsUptoCard

/-- THE SECOND FORM's CARD OF 'pilgrimlaw.Loads'. -/
def loadsUptoCard : Claim7 := { stood := { row := loadsUptoRow, standIns := [], harness := (true, "a3f0a3d7dddd0f40e9b2c302b34ff28a80833b9ecb03a97e3cd0b383ebecd343"), looks := true }, kinds := [], alts := [], laidByText := true, laidKinds := [.data, .data, .data, .sentinel, .sentinel, .data, .pinned], laidTests := true, laidLooks := .later }
def LoadsUptoCardSaid : Prop := Claim7.holds Tryz.pinned (.plain (OpenSpec.upto loadsSpec)) loadsUptoCard

/-- THE SECOND FORM's CARD OF 'pilgrimlaw.Apart'. -/
def apartUptoCard : Claim7 := { stood := { row := apartUptoRow, standIns := [], harness := (true, "a3f0a3d7dddd0f40e9b2c302b34ff28a80833b9ecb03a97e3cd0b383ebecd343"), looks := true }, kinds := [], alts := [], laidByText := true, laidKinds := [.data, .data, .data, .sentinel, .sentinel, .data, .pinned], laidTests := true, laidLooks := .later }
def ApartUptoCardSaid : Prop := Claim7.holds Tryz.pinned (.plain (OpenSpec.upto apartSpec)) apartUptoCard

/-- THE SECOND FORM's CARD OF 'pilgrimlaw.True'. -/
def trueUptoCard : Claim7 := { stood := { row := trueUptoRow, standIns := [], harness := (true, "a3f0a3d7dddd0f40e9b2c302b34ff28a80833b9ecb03a97e3cd0b383ebecd343"), looks := true }, kinds := [], alts := [], laidByText := true, laidKinds := [.data, .data, .data, .sentinel, .sentinel, .data, .pinned], laidTests := true, laidLooks := .later }
def TrueUptoCardSaid : Prop := Claim7.holds Tryz.pinned (.plain (OpenSpec.upto trueSpec)) trueUptoCard
end Rows
end Go.Proofs.YtilcmkiihefkkaaGreatDoor
