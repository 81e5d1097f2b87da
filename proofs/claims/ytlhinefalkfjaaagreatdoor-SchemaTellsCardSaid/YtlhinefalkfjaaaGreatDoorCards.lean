/-
  DERIVED. GIVEN WITH THE SEED: THE CARDS: each row of YtlhinefalkfjaaaGreatDoorRows.lean that lists a variable, with what it lists TIED to the program's text (the seventh form; the later family's looks); each row that meets fmt, with fmt's text TOLD by the authors' own Lean function (tested against real Go, not proved from fmt's source: count such statements apart). THE CARD IS WHAT COUNTS. Prove the row's statement (the work); the ties are given (YtlhinefalkfjaaaGreatDoorTie.lean); close each card by the builder's one call (the guide's Derived/Test/ToyasCard.lean, 'card_holds'). Laid BY PROGRAM, IN A SANDBOX (cutbox-door.mjs). By AI agents, Wed Nov 11 2026. No macro, syntax, notation, axiom, sorry.
-/
import Derived.Test.YtlhinefalkfjaaaGreatDoorRows
import GoSem.ClaimSeven
namespace Go.Proofs.YtlhinefalkfjaaaGreatDoor
namespace Rows

/-- THE TIED CARD OF 'doubletlaw11.SchemaTells'. -/
def schemaTellsCard : Claim7 := { stood := { row := schemaTellsRow, standIns := [], harness := (true, "8965e856be8fc94a2653055983dbcd3769aa4f05ac9b91ba4cc8d6f25234dab1"), looks := true }, kinds := [], alts := [], laidByText := true, laidKinds := [.data, .data, .data, .data, .handle, .pinned], laidTests := true, laidLooks := .later }
def SchemaTellsCardSaid : Prop := Claim7.holds Tryz.pinned (.plain (OpenSpec.ofChange schemaTellsSpec)) schemaTellsCard

/-- THE TIED CARD OF 'doubletlaw11.SchemaPaths'. -/
def schemaPathsCard : Claim7 := { stood := { row := schemaPathsRow, standIns := [], harness := (true, "8965e856be8fc94a2653055983dbcd3769aa4f05ac9b91ba4cc8d6f25234dab1"), looks := true }, kinds := [], alts := [], laidByText := true, laidKinds := [.data, .data, .data, .data, .handle, .pinned], laidTests := true, laidLooks := .later }
def SchemaPathsCardSaid : Prop := Claim7.holds Tryz.pinned (.plain (OpenSpec.ofChange schemaPathsSpec)) schemaPathsCard

/-- THE SECOND FORM's CARD OF 'doubletlaw11.SchemaTells'. -/
def schemaTellsUptoCard : Claim7 := { stood := { row := schemaTellsUptoRow, standIns := [], harness := (true, "8965e856be8fc94a2653055983dbcd3769aa4f05ac9b91ba4cc8d6f25234dab1"), looks := true }, kinds := [], alts := [], laidByText := true, laidKinds := [.data, .data, .data, .data, .handle, .pinned], laidTests := true, laidLooks := .later }
def SchemaTellsUptoCardSaid : Prop := Claim7.holds Tryz.pinned (.plain (OpenSpec.upto schemaTellsSpec)) schemaTellsUptoCard

/-- THE SECOND FORM's CARD OF 'doubletlaw11.SchemaPaths'. -/
def schemaPathsUptoCard : Claim7 := { stood := { row := schemaPathsUptoRow, standIns := [], harness := (true, "8965e856be8fc94a2653055983dbcd3769aa4f05ac9b91ba4cc8d6f25234dab1"), looks := true }, kinds := [], alts := [], laidByText := true, laidKinds := [.data, .data, .data, .data, .handle, .pinned], laidTests := true, laidLooks := .later }
def SchemaPathsUptoCardSaid : Prop := Claim7.holds Tryz.pinned (.plain (OpenSpec.upto schemaPathsSpec)) schemaPathsUptoCard
end Rows
end Go.Proofs.YtlhinefalkfjaaaGreatDoor
