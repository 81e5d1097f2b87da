/-
  DERIVED. GIVEN WITH THE SEED: THE CARDS: each row of YtolkfgikomminaaGreatDoorRows.lean that lists a variable, with what it lists TIED to the program's text (the seventh form; the later family's looks); each row that meets fmt, with fmt's text TOLD by the authors' own Lean function (tested against real Go, not proved from fmt's source: count such statements apart). THE CARD IS WHAT COUNTS. Prove the row's statement (the work); the ties are given (YtolkfgikomminaaGreatDoorTie.lean); close each card by the builder's one call (the guide's Derived/Test/ToyasCard.lean, 'card_holds'). Laid BY PROGRAM, IN A SANDBOX (cutbox-door.mjs). By AI agents, Wed Nov 11 2026. No macro, syntax, notation, axiom, sorry.
-/
import Derived.Test.YtolkfgikomminaaGreatDoorRows
import GoSem.ClaimSeven
namespace Go.Proofs.YtolkfgikomminaaGreatDoor
namespace Rows

/-- THE TIED CARD OF 'doubletlaw14.CheckTells'. -/
def checkTellsCard : Claim7 := { stood := { row := checkTellsRow, standIns := [], harness := (true, "6aa4d927dc1ee6819acc364c029d891b23154d05269fef1e68552c63a877a12b"), looks := false }, kinds := [], alts := [], laidByText := true, laidKinds := [.data, .data, .data, .data, .pinned], laidTests := true, laidLooks := .later }
def CheckTellsCardSaid : Prop := Claim7.holds Tryz.pinned (.plain (OpenSpec.ofChange checkTellsSpec)) checkTellsCard

/-- THE TIED CARD OF 'doubletlaw14.CheckSides'. -/
def checkSidesCard : Claim7 := { stood := { row := checkSidesRow, standIns := [], harness := (true, "6aa4d927dc1ee6819acc364c029d891b23154d05269fef1e68552c63a877a12b"), looks := false }, kinds := [], alts := [], laidByText := true, laidKinds := [.data, .data, .data, .data, .pinned], laidTests := true, laidLooks := .later }
def CheckSidesCardSaid : Prop := Claim7.holds Tryz.pinned (.plain (OpenSpec.ofChange checkSidesSpec)) checkSidesCard

/-- THE SECOND FORM's CARD OF 'doubletlaw14.CheckTells'. -/
def checkTellsUptoCard : Claim7 := { stood := { row := checkTellsUptoRow, standIns := [], harness := (true, "6aa4d927dc1ee6819acc364c029d891b23154d05269fef1e68552c63a877a12b"), looks := false }, kinds := [], alts := [], laidByText := true, laidKinds := [.data, .data, .data, .data, .pinned], laidTests := true, laidLooks := .later }
def CheckTellsUptoCardSaid : Prop := Claim7.holds Tryz.pinned (.plain (OpenSpec.upto checkTellsSpec)) checkTellsUptoCard

/-- THE SECOND FORM's CARD OF 'doubletlaw14.CheckSides'. -/
def checkSidesUptoCard : Claim7 := { stood := { row := checkSidesUptoRow, standIns := [], harness := (true, "6aa4d927dc1ee6819acc364c029d891b23154d05269fef1e68552c63a877a12b"), looks := false }, kinds := [], alts := [], laidByText := true, laidKinds := [.data, .data, .data, .data, .pinned], laidTests := true, laidLooks := .later }
def CheckSidesUptoCardSaid : Prop := Claim7.holds Tryz.pinned (.plain (OpenSpec.upto checkSidesSpec)) checkSidesUptoCard
end Rows
end Go.Proofs.YtolkfgikomminaaGreatDoor
