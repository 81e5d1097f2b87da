/-
  DERIVED. GIVEN WITH THE SEED: THE CARDS: each row of YtdhgmaonolgpnaaGreatDoorRows.lean that lists a variable, with what it lists TIED to the program's text (the seventh form; the later family's looks); each row that meets fmt, with fmt's text TOLD by the authors' own Lean function (tested against real Go, not proved from fmt's source: count such statements apart). THE CARD IS WHAT COUNTS. Prove the row's statement (the work); the ties are given (YtdhgmaonolgpnaaGreatDoorTie.lean); close each card by the builder's one call (the guide's Derived/Test/ToyasCard.lean, 'card_holds'). Laid BY PROGRAM, IN A SANDBOX (cutbox-door.mjs). By AI agents, Wed Nov 11 2026. No macro, syntax, notation, axiom, sorry.
-/
import Derived.Test.YtdhgmaonolgpnaaGreatDoorRows
import GoSem.ClaimSeven
namespace Go.Proofs.YtdhgmaonolgpnaaGreatDoor
namespace Rows

/-- THE TIED CARD OF 'doubletlaw15.ValidSides'. -/
def validSidesCard : Claim7 := { stood := { row := validSidesRow, standIns := [], harness := (true, "7c3d0fca2bdeb82ac8cb727a50b735f0c3fed956b07c3744bf39542f1c191392"), looks := false }, kinds := [], alts := [], laidByText := true, laidKinds := [.data, .data, .data, .data, .pinned], laidTests := true, laidLooks := .later }
def ValidSidesCardSaid : Prop := Claim7.holds Tryz.pinned (.plain (OpenSpec.ofChange validSidesSpec)) validSidesCard

/-- THE SECOND FORM's CARD OF 'doubletlaw15.ValidSides'. -/
def validSidesUptoCard : Claim7 := { stood := { row := validSidesUptoRow, standIns := [], harness := (true, "7c3d0fca2bdeb82ac8cb727a50b735f0c3fed956b07c3744bf39542f1c191392"), looks := false }, kinds := [], alts := [], laidByText := true, laidKinds := [.data, .data, .data, .data, .pinned], laidTests := true, laidLooks := .later }
def ValidSidesUptoCardSaid : Prop := Claim7.holds Tryz.pinned (.plain (OpenSpec.upto validSidesSpec)) validSidesUptoCard
end Rows
end Go.Proofs.YtdhgmaonolgpnaaGreatDoor
