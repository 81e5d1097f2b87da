/-
  DERIVED. GIVEN WITH THE SEED: THE CARDS: each row of YtjdkfkjkmjodlaaDoorRows.lean that lists a variable, with what it lists TIED to the program's text (the seventh form; the later family's looks); each row that meets fmt, with fmt's text TOLD by the authors' own Lean function (tested against real Go, not proved from fmt's source: count such statements apart). THE CARD IS WHAT COUNTS. Prove the row's statement (the work); the ties are given (YtjdkfkjkmjodlaaDoorTie.lean); close each card by the builder's one call (the guide's Derived/Test/ToyasCard.lean, 'card_holds'). Laid BY PROGRAM, IN A SANDBOX (cutbox-door.mjs). By AI agents, Wed Nov 11 2026. No macro, syntax, notation, axiom, sorry.
-/
import Derived.Test.YtjdkfkjkmjodlaaDoorRows
import GoSem.ClaimSeven
namespace Go.Proofs.YtjdkfkjkmjodlaaDoor
namespace Rows

/-- THE TIED CARD OF 'doubletlaw06.PtrTells'. -/
def ptrTellsCard : Claim7 := { stood := { row := ptrTellsRow, standIns := [], harness := (true, "924f22b364a5b8c11229d5976e72efbfdcbd05bcf158e819f2e240b9c8cd9080"), looks := true }, kinds := [], alts := [], laidByText := true, laidKinds := [.data, .pinned], laidTests := true, laidLooks := .later }
def PtrTellsCardSaid : Prop := Claim7.holds Tryd.pinned (.plain (OpenSpec.ofChange ptrTellsSpec)) ptrTellsCard

/-- THE TIED CARD OF 'doubletlaw06.PtrBack'. -/
def ptrBackCard : Claim7 := { stood := { row := ptrBackRow, standIns := [], harness := (true, "924f22b364a5b8c11229d5976e72efbfdcbd05bcf158e819f2e240b9c8cd9080"), looks := true }, kinds := [], alts := [], laidByText := true, laidKinds := [.data, .pinned], laidTests := true, laidLooks := .later }
def PtrBackCardSaid : Prop := Claim7.holds Tryd.pinned (.plain (OpenSpec.ofChange ptrBackSpec)) ptrBackCard

/-- THE SECOND FORM's CARD OF 'doubletlaw06.PtrTells'. -/
def ptrTellsUptoCard : Claim7 := { stood := { row := ptrTellsUptoRow, standIns := [], harness := (true, "924f22b364a5b8c11229d5976e72efbfdcbd05bcf158e819f2e240b9c8cd9080"), looks := true }, kinds := [], alts := [], laidByText := true, laidKinds := [.data, .pinned], laidTests := true, laidLooks := .later }
def PtrTellsUptoCardSaid : Prop := Claim7.holds Tryd.pinned (.plain (OpenSpec.upto ptrTellsSpec)) ptrTellsUptoCard

/-- THE SECOND FORM's CARD OF 'doubletlaw06.PtrBack'. -/
def ptrBackUptoCard : Claim7 := { stood := { row := ptrBackUptoRow, standIns := [], harness := (true, "924f22b364a5b8c11229d5976e72efbfdcbd05bcf158e819f2e240b9c8cd9080"), looks := true }, kinds := [], alts := [], laidByText := true, laidKinds := [.data, .pinned], laidTests := true, laidLooks := .later }
def PtrBackUptoCardSaid : Prop := Claim7.holds Tryd.pinned (.plain (OpenSpec.upto ptrBackSpec)) ptrBackUptoCard
end Rows
end Go.Proofs.YtjdkfkjkmjodlaaDoor
