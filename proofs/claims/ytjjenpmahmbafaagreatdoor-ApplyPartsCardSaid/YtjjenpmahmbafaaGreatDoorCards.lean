/-
  DERIVED. GIVEN WITH THE SEED: THE CARDS: each row of YtjjenpmahmbafaaGreatDoorRows.lean that lists a variable, with what it lists TIED to the program's text (the seventh form; the later family's looks); each row that meets fmt, with fmt's text TOLD by the authors' own Lean function (tested against real Go, not proved from fmt's source: count such statements apart). THE CARD IS WHAT COUNTS. Prove the row's statement (the work); the ties are given (YtjjenpmahmbafaaGreatDoorTie.lean); close each card by the builder's one call (the guide's Derived/Test/ToyasCard.lean, 'card_holds'). Laid BY PROGRAM, IN A SANDBOX (cutbox-door.mjs). By AI agents, Wed Nov 11 2026. No macro, syntax, notation, axiom, sorry.
-/
import Derived.Test.YtjjenpmahmbafaaGreatDoorRows
import GoSem.ClaimSeven
namespace Go.Proofs.YtjjenpmahmbafaaGreatDoor
namespace Rows

/-- THE TIED CARD OF 'doubletlaw09.ApplyTells'. -/
def applyTellsCard : Claim7 := { stood := { row := applyTellsRow, standIns := [], harness := (true, "e88266850a6b17198417ccb9f3ae70a6c7e8807f48029d5228d8811f3dc647bc"), looks := true }, kinds := [], alts := [], laidByText := true, laidKinds := [.handle], laidTests := true, laidLooks := .later }
def ApplyTellsCardSaid : Prop := Claim7.holds Tryz.pinned (.plain (OpenSpec.ofChange applyTellsSpec)) applyTellsCard

/-- THE TIED CARD OF 'doubletlaw09.ApplyParts'. -/
def applyPartsCard : Claim7 := { stood := { row := applyPartsRow, standIns := [], harness := (true, "e88266850a6b17198417ccb9f3ae70a6c7e8807f48029d5228d8811f3dc647bc"), looks := true }, kinds := [], alts := [], laidByText := true, laidKinds := [.handle], laidTests := true, laidLooks := .later }
def ApplyPartsCardSaid : Prop := Claim7.holds Tryz.pinned (.plain (OpenSpec.ofChange applyPartsSpec)) applyPartsCard

/-- THE SECOND FORM's CARD OF 'doubletlaw09.ApplyTells'. -/
def applyTellsUptoCard : Claim7 := { stood := { row := applyTellsUptoRow, standIns := [], harness := (true, "e88266850a6b17198417ccb9f3ae70a6c7e8807f48029d5228d8811f3dc647bc"), looks := true }, kinds := [], alts := [], laidByText := true, laidKinds := [.handle], laidTests := true, laidLooks := .later }
def ApplyTellsUptoCardSaid : Prop := Claim7.holds Tryz.pinned (.plain (OpenSpec.upto applyTellsSpec)) applyTellsUptoCard

/-- THE SECOND FORM's CARD OF 'doubletlaw09.ApplyParts'. -/
def applyPartsUptoCard : Claim7 := { stood := { row := applyPartsUptoRow, standIns := [], harness := (true, "e88266850a6b17198417ccb9f3ae70a6c7e8807f48029d5228d8811f3dc647bc"), looks := true }, kinds := [], alts := [], laidByText := true, laidKinds := [.handle], laidTests := true, laidLooks := .later }
def ApplyPartsUptoCardSaid : Prop := Claim7.holds Tryz.pinned (.plain (OpenSpec.upto applyPartsSpec)) applyPartsUptoCard
end Rows
end Go.Proofs.YtjjenpmahmbafaaGreatDoor
