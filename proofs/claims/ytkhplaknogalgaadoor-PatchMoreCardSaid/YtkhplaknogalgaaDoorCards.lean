/-
  DERIVED. GIVEN WITH THE SEED: THE CARDS: each row of YtkhplaknogalgaaDoorRows.lean that lists a variable, with what it lists TIED to the program's text (the seventh form; the later family's looks); each row that meets fmt, with fmt's text TOLD by the authors' own Lean function (tested against real Go, not proved from fmt's source: count such statements apart). THE CARD IS WHAT COUNTS. Prove the row's statement (the work); the ties are given (YtkhplaknogalgaaDoorTie.lean); close each card by the builder's one call (the guide's Derived/Test/ToyasCard.lean, 'card_holds'). Laid BY PROGRAM, IN A SANDBOX (cutbox-door.mjs). By AI agents, Wed Nov 11 2026. No macro, syntax, notation, axiom, sorry.
-/
import Derived.Test.YtkhplaknogalgaaDoorRows
import GoSem.ClaimSeven
namespace Go.Proofs.YtkhplaknogalgaaDoor
namespace Rows

/-- THE TIED CARD OF 'doubletlaw08.PatchTells'. -/
def patchTellsCard : Claim7 := { stood := { row := patchTellsRow, standIns := [], harness := (true, "f87c83f81485218ab25e5af52585b40447fccc1e62db1e74e138426fb6d26b1d"), looks := true }, kinds := [], alts := [], laidByText := true, laidKinds := [.data, .pinned], laidTests := true, laidLooks := .later }
def PatchTellsCardSaid : Prop := Claim7.holds Tryd.pinned (.plain (OpenSpec.ofChange patchTellsSpec)) patchTellsCard

/-- THE TIED CARD OF 'doubletlaw08.PatchMore'. -/
def patchMoreCard : Claim7 := { stood := { row := patchMoreRow, standIns := [], harness := (true, "f87c83f81485218ab25e5af52585b40447fccc1e62db1e74e138426fb6d26b1d"), looks := true }, kinds := [], alts := [], laidByText := true, laidKinds := [.data, .pinned], laidTests := true, laidLooks := .later }
def PatchMoreCardSaid : Prop := Claim7.holds Tryd.pinned (.plain (OpenSpec.ofChange patchMoreSpec)) patchMoreCard

/-- THE SECOND FORM's CARD OF 'doubletlaw08.PatchTells'. -/
def patchTellsUptoCard : Claim7 := { stood := { row := patchTellsUptoRow, standIns := [], harness := (true, "f87c83f81485218ab25e5af52585b40447fccc1e62db1e74e138426fb6d26b1d"), looks := true }, kinds := [], alts := [], laidByText := true, laidKinds := [.data, .pinned], laidTests := true, laidLooks := .later }
def PatchTellsUptoCardSaid : Prop := Claim7.holds Tryd.pinned (.plain (OpenSpec.upto patchTellsSpec)) patchTellsUptoCard

/-- THE SECOND FORM's CARD OF 'doubletlaw08.PatchMore'. -/
def patchMoreUptoCard : Claim7 := { stood := { row := patchMoreUptoRow, standIns := [], harness := (true, "f87c83f81485218ab25e5af52585b40447fccc1e62db1e74e138426fb6d26b1d"), looks := true }, kinds := [], alts := [], laidByText := true, laidKinds := [.data, .pinned], laidTests := true, laidLooks := .later }
def PatchMoreUptoCardSaid : Prop := Claim7.holds Tryd.pinned (.plain (OpenSpec.upto patchMoreSpec)) patchMoreUptoCard
end Rows
end Go.Proofs.YtkhplaknogalgaaDoor
