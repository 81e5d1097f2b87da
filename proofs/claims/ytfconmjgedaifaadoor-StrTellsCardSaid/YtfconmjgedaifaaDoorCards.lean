/-
  DERIVED. GIVEN WITH THE SEED: THE CARDS: each row of YtfconmjgedaifaaDoorRows.lean that lists a variable, with what it lists TIED to the program's text (the seventh form; the later family's looks); each row that meets fmt, with fmt's text TOLD by the authors' own Lean function (tested against real Go, not proved from fmt's source: count such statements apart). THE CARD IS WHAT COUNTS. Prove the row's statement (the work); the ties are given (YtfconmjgedaifaaDoorTie.lean); close each card by the builder's one call (the guide's Derived/Test/ToyasCard.lean, 'card_holds'). Laid BY PROGRAM, IN A SANDBOX (cutbox-door.mjs). By AI agents, Wed Nov 11 2026. No macro, syntax, notation, axiom, sorry.
-/
import Derived.Test.YtfconmjgedaifaaDoorRows
import GoSem.ClaimSeven
namespace Go.Proofs.YtfconmjgedaifaaDoor
namespace Rows

/-- THE TIED CARD OF 'doubletlaw01.NumTells'. -/
def numTellsCard : Claim7 := { stood := { row := numTellsRow, standIns := [], harness := (true, "1087b04bac5bf2f74a4496681edaf63024154e9bbfc45ecc3cfd5031887f3a38"), looks := true }, kinds := [], alts := [], laidByText := true, laidKinds := [.data, .data, .data, .data, .pinned], laidTests := true, laidLooks := .later }
def NumTellsCardSaid : Prop := Claim7.holds Tryd.pinned (.plain (OpenSpec.ofChange numTellsSpec)) numTellsCard

/-- THE TIED CARD OF 'doubletlaw01.NumBack'. -/
def numBackCard : Claim7 := { stood := { row := numBackRow, standIns := [], harness := (true, "1087b04bac5bf2f74a4496681edaf63024154e9bbfc45ecc3cfd5031887f3a38"), looks := true }, kinds := [], alts := [], laidByText := true, laidKinds := [.data, .data, .data, .data, .pinned], laidTests := true, laidLooks := .later }
def NumBackCardSaid : Prop := Claim7.holds Tryd.pinned (.plain (OpenSpec.ofChange numBackSpec)) numBackCard

/-- THE TIED CARD OF 'doubletlaw02.StrTells'. -/
def strTellsCard : Claim7 := { stood := { row := strTellsRow, standIns := [], harness := (true, "1087b04bac5bf2f74a4496681edaf63024154e9bbfc45ecc3cfd5031887f3a38"), looks := true }, kinds := [], alts := [], laidByText := true, laidKinds := [.data, .pinned], laidTests := true, laidLooks := .later }
def StrTellsCardSaid : Prop := Claim7.holds Tryd.pinned (.plain (OpenSpec.ofChange strTellsSpec)) strTellsCard

/-- THE TIED CARD OF 'doubletlaw02.StrBack'. -/
def strBackCard : Claim7 := { stood := { row := strBackRow, standIns := [], harness := (true, "1087b04bac5bf2f74a4496681edaf63024154e9bbfc45ecc3cfd5031887f3a38"), looks := true }, kinds := [], alts := [], laidByText := true, laidKinds := [.data, .pinned], laidTests := true, laidLooks := .later }
def StrBackCardSaid : Prop := Claim7.holds Tryd.pinned (.plain (OpenSpec.ofChange strBackSpec)) strBackCard

/-- THE TIED CARD OF 'doubletlaw03.ValueTells'. -/
def valueTellsCard : Claim7 := { stood := { row := valueTellsRow, standIns := [], harness := (true, "1087b04bac5bf2f74a4496681edaf63024154e9bbfc45ecc3cfd5031887f3a38"), looks := true }, kinds := [], alts := [], laidByText := true, laidKinds := [.data, .pinned], laidTests := true, laidLooks := .later }
def ValueTellsCardSaid : Prop := Claim7.holds Tryd.pinned (.plain (OpenSpec.ofChange valueTellsSpec)) valueTellsCard

/-- THE TIED CARD OF 'doubletlaw03.ValueMays'. -/
def valueMaysCard : Claim7 := { stood := { row := valueMaysRow, standIns := [], harness := (true, "1087b04bac5bf2f74a4496681edaf63024154e9bbfc45ecc3cfd5031887f3a38"), looks := true }, kinds := [], alts := [], laidByText := true, laidKinds := [.data, .pinned], laidTests := true, laidLooks := .later }
def ValueMaysCardSaid : Prop := Claim7.holds Tryd.pinned (.plain (OpenSpec.ofChange valueMaysSpec)) valueMaysCard

/-- THE TIED CARD OF 'doubletlaw03.ValueSame'. -/
def valueSameCard : Claim7 := { stood := { row := valueSameRow, standIns := [], harness := (true, "1087b04bac5bf2f74a4496681edaf63024154e9bbfc45ecc3cfd5031887f3a38"), looks := true }, kinds := [], alts := [], laidByText := true, laidKinds := [.data, .pinned], laidTests := true, laidLooks := .later }
def ValueSameCardSaid : Prop := Claim7.holds Tryd.pinned (.plain (OpenSpec.ofChange valueSameSpec)) valueSameCard

/-- THE SECOND FORM's CARD OF 'doubletlaw01.NumTells'. -/
def numTellsUptoCard : Claim7 := { stood := { row := numTellsUptoRow, standIns := [], harness := (true, "1087b04bac5bf2f74a4496681edaf63024154e9bbfc45ecc3cfd5031887f3a38"), looks := true }, kinds := [], alts := [], laidByText := true, laidKinds := [.data, .data, .data, .data, .pinned], laidTests := true, laidLooks := .later }
def NumTellsUptoCardSaid : Prop := Claim7.holds Tryd.pinned (.plain (OpenSpec.upto numTellsSpec)) numTellsUptoCard

/-- THE SECOND FORM's CARD OF 'doubletlaw01.NumBack'. -/
def numBackUptoCard : Claim7 := { stood := { row := numBackUptoRow, standIns := [], harness := (true, "1087b04bac5bf2f74a4496681edaf63024154e9bbfc45ecc3cfd5031887f3a38"), looks := true }, kinds := [], alts := [], laidByText := true, laidKinds := [.data, .data, .data, .data, .pinned], laidTests := true, laidLooks := .later }
def NumBackUptoCardSaid : Prop := Claim7.holds Tryd.pinned (.plain (OpenSpec.upto numBackSpec)) numBackUptoCard

/-- THE SECOND FORM's CARD OF 'doubletlaw02.StrTells'. -/
def strTellsUptoCard : Claim7 := { stood := { row := strTellsUptoRow, standIns := [], harness := (true, "1087b04bac5bf2f74a4496681edaf63024154e9bbfc45ecc3cfd5031887f3a38"), looks := true }, kinds := [], alts := [], laidByText := true, laidKinds := [.data, .pinned], laidTests := true, laidLooks := .later }
def StrTellsUptoCardSaid : Prop := Claim7.holds Tryd.pinned (.plain (OpenSpec.upto strTellsSpec)) strTellsUptoCard

/-- THE SECOND FORM's CARD OF 'doubletlaw02.StrBack'. -/
def strBackUptoCard : Claim7 := { stood := { row := strBackUptoRow, standIns := [], harness := (true, "1087b04bac5bf2f74a4496681edaf63024154e9bbfc45ecc3cfd5031887f3a38"), looks := true }, kinds := [], alts := [], laidByText := true, laidKinds := [.data, .pinned], laidTests := true, laidLooks := .later }
def StrBackUptoCardSaid : Prop := Claim7.holds Tryd.pinned (.plain (OpenSpec.upto strBackSpec)) strBackUptoCard

/-- THE SECOND FORM's CARD OF 'doubletlaw03.ValueTells'. -/
def valueTellsUptoCard : Claim7 := { stood := { row := valueTellsUptoRow, standIns := [], harness := (true, "1087b04bac5bf2f74a4496681edaf63024154e9bbfc45ecc3cfd5031887f3a38"), looks := true }, kinds := [], alts := [], laidByText := true, laidKinds := [.data, .pinned], laidTests := true, laidLooks := .later }
def ValueTellsUptoCardSaid : Prop := Claim7.holds Tryd.pinned (.plain (OpenSpec.upto valueTellsSpec)) valueTellsUptoCard

/-- THE SECOND FORM's CARD OF 'doubletlaw03.ValueMays'. -/
def valueMaysUptoCard : Claim7 := { stood := { row := valueMaysUptoRow, standIns := [], harness := (true, "1087b04bac5bf2f74a4496681edaf63024154e9bbfc45ecc3cfd5031887f3a38"), looks := true }, kinds := [], alts := [], laidByText := true, laidKinds := [.data, .pinned], laidTests := true, laidLooks := .later }
def ValueMaysUptoCardSaid : Prop := Claim7.holds Tryd.pinned (.plain (OpenSpec.upto valueMaysSpec)) valueMaysUptoCard

/-- THE SECOND FORM's CARD OF 'doubletlaw03.ValueSame'. -/
def valueSameUptoCard : Claim7 := { stood := { row := valueSameUptoRow, standIns := [], harness := (true, "1087b04bac5bf2f74a4496681edaf63024154e9bbfc45ecc3cfd5031887f3a38"), looks := true }, kinds := [], alts := [], laidByText := true, laidKinds := [.data, .pinned], laidTests := true, laidLooks := .later }
def ValueSameUptoCardSaid : Prop := Claim7.holds Tryd.pinned (.plain (OpenSpec.upto valueSameSpec)) valueSameUptoCard
end Rows
end Go.Proofs.YtfconmjgedaifaaDoor
