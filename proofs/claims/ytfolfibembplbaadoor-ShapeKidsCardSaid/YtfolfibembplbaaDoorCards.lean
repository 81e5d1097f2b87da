/-
  DERIVED. GIVEN WITH THE SEED: THE CARDS: each row of YtfolfibembplbaaDoorRows.lean that lists a variable, with what it lists TIED to the program's text (the seventh form; the later family's looks); each row that meets fmt, with fmt's text TOLD by the authors' own Lean function (tested against real Go, not proved from fmt's source: count such statements apart). THE CARD IS WHAT COUNTS. Prove the row's statement (the work); the ties are given (YtfolfibembplbaaDoorTie.lean); close each card by the builder's one call (the guide's Derived/Test/ToyasCard.lean, 'card_holds'). Laid BY PROGRAM, IN A SANDBOX (cutbox-door.mjs). By AI agents, Wed Nov 11 2026. No macro, syntax, notation, axiom, sorry.
-/
import Derived.Test.YtfolfibembplbaaDoorRows
import GoSem.ClaimSeven
namespace Go.Proofs.YtfolfibembplbaaDoor
namespace Rows

/-- THE TIED CARD OF 'doubletlaw10.ShapeKids'. -/
def shapeKidsCard : Claim7 := { stood := { row := shapeKidsRow, standIns := [], harness := (true, "4152ccc1511e8dba9f616a04bddfe78811cd0c928af7ede0628b935643bc9e32"), looks := true }, kinds := [], alts := [], laidByText := true, laidKinds := [.data, .data, .data, .data, .pinned], laidTests := true, laidLooks := .later }
def ShapeKidsCardSaid : Prop := Claim7.holds Tryd.pinned (.plain (OpenSpec.ofChange shapeKidsSpec)) shapeKidsCard

/-- THE SECOND FORM's CARD OF 'doubletlaw10.ShapeKids'. -/
def shapeKidsUptoCard : Claim7 := { stood := { row := shapeKidsUptoRow, standIns := [], harness := (true, "4152ccc1511e8dba9f616a04bddfe78811cd0c928af7ede0628b935643bc9e32"), looks := true }, kinds := [], alts := [], laidByText := true, laidKinds := [.data, .data, .data, .data, .pinned], laidTests := true, laidLooks := .later }
def ShapeKidsUptoCardSaid : Prop := Claim7.holds Tryd.pinned (.plain (OpenSpec.upto shapeKidsSpec)) shapeKidsUptoCard
end Rows
end Go.Proofs.YtfolfibembplbaaDoor
