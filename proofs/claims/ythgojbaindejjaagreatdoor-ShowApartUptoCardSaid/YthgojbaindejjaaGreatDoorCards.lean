/-
  DERIVED. GIVEN WITH THE SEED: THE CARDS: each row of YthgojbaindejjaaGreatDoorRows.lean that lists a variable, with what it lists TIED to the program's text (the seventh form; the later family's looks); each row that meets fmt, with fmt's text TOLD by the authors' own Lean function (tested against real Go, not proved from fmt's source: count such statements apart). THE CARD IS WHAT COUNTS. Prove the row's statement (the work); the ties are given (YthgojbaindejjaaGreatDoorTie.lean); close each card by the builder's one call (the guide's Derived/Test/ToyasCard.lean, 'card_holds'). Laid BY PROGRAM, IN A SANDBOX (cutbox-door.mjs). By AI agents, Wed Nov 11 2026. No macro, syntax, notation, axiom, sorry.
-/
import Derived.Test.YthgojbaindejjaaGreatDoorRows
import GoSem.ClaimSeven
namespace Go.Proofs.YthgojbaindejjaaGreatDoor
namespace Rows

/-- THE TIED CARD OF 'intarsialaw10.ShowMatchesReference'. -/
def showMatchesReferenceCard : Claim7 := { stood := { row := showMatchesReferenceRow, standIns := [], harness := (true, "2c6c6f204af784c042289f1713c946f7683d6ea8c543305e30aeaf0b00e0f902"), looks := true }, kinds := [], alts := [], laidByText := true, laidKinds := [.data, .data, .data, .data, .sentinel, .sentinel, .data, .pinned], laidTests := true, laidLooks := .later }
def ShowMatchesReferenceCardSaid : Prop := Claim7.holds Tryz.pinned (.plain (OpenSpec.ofChange showMatchesReferenceSpec)) showMatchesReferenceCard

/-- THE TIED CARD OF 'intarsialaw10.ShowInverse'. -/
def showInverseCard : Claim7 := { stood := { row := showInverseRow, standIns := [], harness := (true, "2c6c6f204af784c042289f1713c946f7683d6ea8c543305e30aeaf0b00e0f902"), looks := true }, kinds := [], alts := [], laidByText := true, laidKinds := [.data, .data, .data, .data, .sentinel, .sentinel, .data, .pinned], laidTests := true, laidLooks := .later }
def ShowInverseCardSaid : Prop := Claim7.holds Tryz.pinned (.plain (OpenSpec.ofChange showInverseSpec)) showInverseCard

/-- THE TIED CARD OF 'intarsialaw10.ShowTidies'. -/
def showTidiesCard : Claim7 := { stood := { row := showTidiesRow, standIns := [], harness := (true, "2c6c6f204af784c042289f1713c946f7683d6ea8c543305e30aeaf0b00e0f902"), looks := true }, kinds := [], alts := [], laidByText := true, laidKinds := [.data, .data, .data, .data, .sentinel, .sentinel, .data, .pinned], laidTests := true, laidLooks := .later }
def ShowTidiesCardSaid : Prop := Claim7.holds Tryz.pinned (.plain (OpenSpec.ofChange showTidiesSpec)) showTidiesCard

/-- THE TIED CARD OF 'intarsialaw10.ShowApart'. -/
def showApartCard : Claim7 := { stood := { row := showApartRow, standIns := [], harness := (true, "2c6c6f204af784c042289f1713c946f7683d6ea8c543305e30aeaf0b00e0f902"), looks := true }, kinds := [], alts := [], laidByText := true, laidKinds := [.data, .data, .data, .data, .sentinel, .sentinel, .data, .pinned], laidTests := true, laidLooks := .later }
def ShowApartCardSaid : Prop := Claim7.holds Tryz.pinned (.plain (OpenSpec.ofChange showApartSpec)) showApartCard

/-- THE SECOND FORM's CARD OF 'intarsialaw10.ShowMatchesReference'. -/
def showMatchesReferenceUptoCard : Claim7 := { stood := { row := showMatchesReferenceUptoRow, standIns := [], harness := (true, "2c6c6f204af784c042289f1713c946f7683d6ea8c543305e30aeaf0b00e0f902"), looks := true }, kinds := [], alts := [], laidByText := true, laidKinds := [.data, .data, .data, .data, .sentinel, .sentinel, .data, .pinned], laidTests := true, laidLooks := .later }
def ShowMatchesReferenceUptoCardSaid : Prop := Claim7.holds Tryz.pinned (.plain (OpenSpec.upto showMatchesReferenceSpec)) showMatchesReferenceUptoCard

/-- THE SECOND FORM's CARD OF 'intarsialaw10.ShowInverse'. -/
def showInverseUptoCard : Claim7 := { stood := { row := showInverseUptoRow, standIns := [], harness := (true, "2c6c6f204af784c042289f1713c946f7683d6ea8c543305e30aeaf0b00e0f902"), looks := true }, kinds := [], alts := [], laidByText := true, laidKinds := [.data, .data, .data, .data, .sentinel, .sentinel, .data, .pinned], laidTests := true, laidLooks := .later }
def ShowInverseUptoCardSaid : Prop := Claim7.holds Tryz.pinned (.plain (OpenSpec.upto showInverseSpec)) showInverseUptoCard

/-- THE SECOND FORM's CARD OF 'intarsialaw10.ShowTidies'. -/
def showTidiesUptoCard : Claim7 := { stood := { row := showTidiesUptoRow, standIns := [], harness := (true, "2c6c6f204af784c042289f1713c946f7683d6ea8c543305e30aeaf0b00e0f902"), looks := true }, kinds := [], alts := [], laidByText := true, laidKinds := [.data, .data, .data, .data, .sentinel, .sentinel, .data, .pinned], laidTests := true, laidLooks := .later }
def ShowTidiesUptoCardSaid : Prop := Claim7.holds Tryz.pinned (.plain (OpenSpec.upto showTidiesSpec)) showTidiesUptoCard

/-- THE SECOND FORM's CARD OF 'intarsialaw10.ShowApart'. -/
def showApartUptoCard : Claim7 := { stood := { row := showApartUptoRow, standIns := [], harness := (true, "2c6c6f204af784c042289f1713c946f7683d6ea8c543305e30aeaf0b00e0f902"), looks := true }, kinds := [], alts := [], laidByText := true, laidKinds := [.data, .data, .data, .data, .sentinel, .sentinel, .data, .pinned], laidTests := true, laidLooks := .later }
def ShowApartUptoCardSaid : Prop := Claim7.holds Tryz.pinned (.plain (OpenSpec.upto showApartSpec)) showApartUptoCard
end Rows
end Go.Proofs.YthgojbaindejjaaGreatDoor
