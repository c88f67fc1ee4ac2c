/-
  DERIVED. GIVEN WITH THE SEED: THE CARDS: each row of YtmpokhdljlnllaaDoorRows.lean that lists a variable, with what it lists TIED to the program's text (the seventh form; the later family's looks); each row that meets fmt, with fmt's text TOLD by the authors' own Lean function (tested against real Go, not proved from fmt's source: count such statements apart). THE CARD IS WHAT COUNTS. Prove the row's statement (the work); the ties are given (YtmpokhdljlnllaaDoorTie.lean); close each card by the builder's one call (the guide's Derived/Test/ToyasCard.lean, 'card_holds'). Laid BY PROGRAM, IN A SANDBOX (cutbox-door.mjs). By AI agents, Wed Nov 11 2026. No macro, syntax, notation, axiom, sorry.
-/
import Derived.Test.YtmpokhdljlnllaaDoorRows
import GoSem.ClaimSeven
namespace Go.Proofs.YtmpokhdljlnllaaDoor
namespace Rows

/-- THE TIED CARD OF 'postriderlaw06.EidTexts'. -/
def eidTextsCard : Claim7 := { stood := { row := eidTextsRow, standIns := [], harness := (true, "a82057de036db3f05f3360c2633399e260395f4c9ca211d109f164264dd1dbeb"), looks := true }, kinds := [], alts := [], laidByText := true, laidKinds := [.data, .data, .data, .sentinel, .sentinel], laidTests := true, laidLooks := .later }
def EidTextsCardSaid : Prop := Claim7.holds Tryd.pinned (.plain (OpenSpec.ofChange eidTextsSpec)) eidTextsCard

/-- THE TIED CARD OF 'postriderlaw06.EidBack'. -/
def eidBackCard : Claim7 := { stood := { row := eidBackRow, standIns := [], harness := (true, "a82057de036db3f05f3360c2633399e260395f4c9ca211d109f164264dd1dbeb"), looks := true }, kinds := [], alts := [], laidByText := true, laidKinds := [.data, .data, .data, .sentinel, .sentinel], laidTests := true, laidLooks := .later }
def EidBackCardSaid : Prop := Claim7.holds Tryd.pinned (.plain (OpenSpec.ofChange eidBackSpec)) eidBackCard

/-- THE TIED CARD OF 'postriderlaw06.EidApart'. -/
def eidApartCard : Claim7 := { stood := { row := eidApartRow, standIns := [], harness := (true, "a82057de036db3f05f3360c2633399e260395f4c9ca211d109f164264dd1dbeb"), looks := true }, kinds := [], alts := [], laidByText := true, laidKinds := [.data, .data, .data, .sentinel, .sentinel], laidTests := true, laidLooks := .later }
def EidApartCardSaid : Prop := Claim7.holds Tryd.pinned (.plain (OpenSpec.ofChange eidApartSpec)) eidApartCard

/-- THE TIED CARD OF 'postriderlaw06.EidHomes'. -/
def eidHomesCard : Claim7 := { stood := { row := eidHomesRow, standIns := [], harness := (true, "a82057de036db3f05f3360c2633399e260395f4c9ca211d109f164264dd1dbeb"), looks := true }, kinds := [], alts := [], laidByText := true, laidKinds := [.data, .data, .data, .sentinel, .sentinel], laidTests := true, laidLooks := .later }
def EidHomesCardSaid : Prop := Claim7.holds Tryd.pinned (.plain (OpenSpec.ofChange eidHomesSpec)) eidHomesCard

/-- THE TIED CARD OF 'postriderlaw06.EidWords'. -/
def eidWordsCard : Claim7 := { stood := { row := eidWordsRow, standIns := [], harness := (true, "a82057de036db3f05f3360c2633399e260395f4c9ca211d109f164264dd1dbeb"), looks := true }, kinds := [], alts := [], laidByText := true, laidKinds := [.data, .data, .data, .sentinel, .sentinel], laidTests := true, laidLooks := .later }
def EidWordsCardSaid : Prop := Claim7.holds Tryd.pinned (.plain (OpenSpec.ofChange eidWordsSpec)) eidWordsCard

/-- THE SECOND FORM's CARD OF 'postriderlaw06.EidTexts'. -/
def eidTextsUptoCard : Claim7 := { stood := { row := eidTextsUptoRow, standIns := [], harness := (true, "a82057de036db3f05f3360c2633399e260395f4c9ca211d109f164264dd1dbeb"), looks := true }, kinds := [], alts := [], laidByText := true, laidKinds := [.data, .data, .data, .sentinel, .sentinel], laidTests := true, laidLooks := .later }
def EidTextsUptoCardSaid : Prop := Claim7.holds Tryd.pinned (.plain (OpenSpec.upto eidTextsSpec)) eidTextsUptoCard

/-- THE SECOND FORM's CARD OF 'postriderlaw06.EidBack'. -/
def eidBackUptoCard : Claim7 := { stood := { row := eidBackUptoRow, standIns := [], harness := (true, "a82057de036db3f05f3360c2633399e260395f4c9ca211d109f164264dd1dbeb"), looks := true }, kinds := [], alts := [], laidByText := true, laidKinds := [.data, .data, .data, .sentinel, .sentinel], laidTests := true, laidLooks := .later }
def EidBackUptoCardSaid : Prop := Claim7.holds Tryd.pinned (.plain (OpenSpec.upto eidBackSpec)) eidBackUptoCard

/-- THE SECOND FORM's CARD OF 'postriderlaw06.EidApart'. -/
def eidApartUptoCard : Claim7 := { stood := { row := eidApartUptoRow, standIns := [], harness := (true, "a82057de036db3f05f3360c2633399e260395f4c9ca211d109f164264dd1dbeb"), looks := true }, kinds := [], alts := [], laidByText := true, laidKinds := [.data, .data, .data, .sentinel, .sentinel], laidTests := true, laidLooks := .later }
def EidApartUptoCardSaid : Prop := Claim7.holds Tryd.pinned (.plain (OpenSpec.upto eidApartSpec)) eidApartUptoCard

/-- THE SECOND FORM's CARD OF 'postriderlaw06.EidHomes'. -/
def eidHomesUptoCard : Claim7 := { stood := { row := eidHomesUptoRow, standIns := [], harness := (true, "a82057de036db3f05f3360c2633399e260395f4c9ca211d109f164264dd1dbeb"), looks := true }, kinds := [], alts := [], laidByText := true, laidKinds := [.data, .data, .data, .sentinel, .sentinel], laidTests := true, laidLooks := .later }
def EidHomesUptoCardSaid : Prop := Claim7.holds Tryd.pinned (.plain (OpenSpec.upto eidHomesSpec)) eidHomesUptoCard

/-- THE SECOND FORM's CARD OF 'postriderlaw06.EidWords'. -/
def eidWordsUptoCard : Claim7 := { stood := { row := eidWordsUptoRow, standIns := [], harness := (true, "a82057de036db3f05f3360c2633399e260395f4c9ca211d109f164264dd1dbeb"), looks := true }, kinds := [], alts := [], laidByText := true, laidKinds := [.data, .data, .data, .sentinel, .sentinel], laidTests := true, laidLooks := .later }
def EidWordsUptoCardSaid : Prop := Claim7.holds Tryd.pinned (.plain (OpenSpec.upto eidWordsSpec)) eidWordsUptoCard
end Rows
end Go.Proofs.YtmpokhdljlnllaaDoor
