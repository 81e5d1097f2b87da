/-
  DERIVED. GIVEN WITH THE SEED: THE CARDS: each row of YticpgjhckjhfeaaDoorRows.lean that lists a variable, with what it lists TIED to the program's text (the seventh form; the later family's looks); each row that meets fmt, with fmt's text TOLD by the authors' own Lean function (tested against real Go, not proved from fmt's source: count such statements apart). THE CARD IS WHAT COUNTS. Prove the row's statement (the work); the ties are given (YticpgjhckjhfeaaDoorTie.lean); close each card by the builder's one call (the guide's Derived/Test/ToyasCard.lean, 'card_holds'). Laid BY PROGRAM, IN A SANDBOX (cutbox-door.mjs). By AI agents, Wed Nov 11 2026. No macro, syntax, notation, axiom, sorry.
-/
import Derived.Test.YticpgjhckjhfeaaDoorRows
import GoSem.ClaimSeven
namespace Go.Proofs.YticpgjhckjhfeaaDoor
namespace Rows

/-- THE TIED CARD OF 'doubletlaw12.RefsTells'. -/
def refsTellsCard : Claim7 := { stood := { row := refsTellsRow, standIns := [], harness := (true, "aa9cfb6ac97fd12b15617633e09d58d8b61e69a60e6c69074fb415d77d1fd9e4"), looks := true }, kinds := [], alts := [], laidByText := true, laidKinds := [.data, .pinned], laidTests := true, laidLooks := .later }
def RefsTellsCardSaid : Prop := Claim7.holds Tryd.pinned (.plain (OpenSpec.ofChange refsTellsSpec)) refsTellsCard

/-- THE TIED CARD OF 'doubletlaw12.RefsEnd'. -/
def refsEndCard : Claim7 := { stood := { row := refsEndRow, standIns := [], harness := (true, "aa9cfb6ac97fd12b15617633e09d58d8b61e69a60e6c69074fb415d77d1fd9e4"), looks := true }, kinds := [], alts := [], laidByText := true, laidKinds := [.data, .pinned], laidTests := true, laidLooks := .later }
def RefsEndCardSaid : Prop := Claim7.holds Tryd.pinned (.plain (OpenSpec.ofChange refsEndSpec)) refsEndCard

/-- THE SECOND FORM's CARD OF 'doubletlaw12.RefsTells'. -/
def refsTellsUptoCard : Claim7 := { stood := { row := refsTellsUptoRow, standIns := [], harness := (true, "aa9cfb6ac97fd12b15617633e09d58d8b61e69a60e6c69074fb415d77d1fd9e4"), looks := true }, kinds := [], alts := [], laidByText := true, laidKinds := [.data, .pinned], laidTests := true, laidLooks := .later }
def RefsTellsUptoCardSaid : Prop := Claim7.holds Tryd.pinned (.plain (OpenSpec.upto refsTellsSpec)) refsTellsUptoCard

/-- THE SECOND FORM's CARD OF 'doubletlaw12.RefsEnd'. -/
def refsEndUptoCard : Claim7 := { stood := { row := refsEndUptoRow, standIns := [], harness := (true, "aa9cfb6ac97fd12b15617633e09d58d8b61e69a60e6c69074fb415d77d1fd9e4"), looks := true }, kinds := [], alts := [], laidByText := true, laidKinds := [.data, .pinned], laidTests := true, laidLooks := .later }
def RefsEndUptoCardSaid : Prop := Claim7.holds Tryd.pinned (.plain (OpenSpec.upto refsEndSpec)) refsEndUptoCard
end Rows
end Go.Proofs.YticpgjhckjhfeaaDoor
