/-
  DERIVED. GIVEN WITH THE SEED: THE CARDS: each row of YtccacjkogdmleaaDoorRows.lean that lists a variable, with what it lists TIED to the program's text (the seventh form; the later family's looks); each row that meets fmt, with fmt's text TOLD by the authors' own Lean function (tested against real Go, not proved from fmt's source: count such statements apart). THE CARD IS WHAT COUNTS. Prove the row's statement (the work); the ties are given (YtccacjkogdmleaaDoorTie.lean); close each card by the builder's one call (the guide's Derived/Test/ToyasCard.lean, 'card_holds'). Laid BY PROGRAM, IN A SANDBOX (cutbox-door.mjs). By AI agents, Wed Nov 11 2026. No macro, syntax, notation, axiom, sorry.
-/
import Derived.Test.YtccacjkogdmleaaDoorRows
import GoSem.ClaimSeven
namespace Go.Proofs.YtccacjkogdmleaaDoor
namespace Rows

/-- THE TIED CARD OF 'doubletlaw13.FaultsTells'. -/
def faultsTellsCard : Claim7 := { stood := { row := faultsTellsRow, standIns := [], harness := (true, "2e0d8af1f5933fba487a69da9122f4d10d126e6839fc45b07d801d3ada125f2d"), looks := false }, kinds := [], alts := [], laidByText := true, laidKinds := [.data, .pinned], laidTests := true, laidLooks := .later }
def FaultsTellsCardSaid : Prop := Claim7.holds Tryd.pinned (.plain (OpenSpec.ofChange faultsTellsSpec)) faultsTellsCard

/-- THE TIED CARD OF 'doubletlaw13.FaultsBoth'. -/
def faultsBothCard : Claim7 := { stood := { row := faultsBothRow, standIns := [], harness := (true, "2e0d8af1f5933fba487a69da9122f4d10d126e6839fc45b07d801d3ada125f2d"), looks := false }, kinds := [], alts := [], laidByText := true, laidKinds := [.data, .pinned], laidTests := true, laidLooks := .later }
def FaultsBothCardSaid : Prop := Claim7.holds Tryd.pinned (.plain (OpenSpec.ofChange faultsBothSpec)) faultsBothCard

/-- THE SECOND FORM's CARD OF 'doubletlaw13.FaultsTells'. -/
def faultsTellsUptoCard : Claim7 := { stood := { row := faultsTellsUptoRow, standIns := [], harness := (true, "2e0d8af1f5933fba487a69da9122f4d10d126e6839fc45b07d801d3ada125f2d"), looks := false }, kinds := [], alts := [], laidByText := true, laidKinds := [.data, .pinned], laidTests := true, laidLooks := .later }
def FaultsTellsUptoCardSaid : Prop := Claim7.holds Tryd.pinned (.plain (OpenSpec.upto faultsTellsSpec)) faultsTellsUptoCard

/-- THE SECOND FORM's CARD OF 'doubletlaw13.FaultsBoth'. -/
def faultsBothUptoCard : Claim7 := { stood := { row := faultsBothUptoRow, standIns := [], harness := (true, "2e0d8af1f5933fba487a69da9122f4d10d126e6839fc45b07d801d3ada125f2d"), looks := false }, kinds := [], alts := [], laidByText := true, laidKinds := [.data, .pinned], laidTests := true, laidLooks := .later }
def FaultsBothUptoCardSaid : Prop := Claim7.holds Tryd.pinned (.plain (OpenSpec.upto faultsBothSpec)) faultsBothUptoCard
end Rows
end Go.Proofs.YtccacjkogdmleaaDoor
