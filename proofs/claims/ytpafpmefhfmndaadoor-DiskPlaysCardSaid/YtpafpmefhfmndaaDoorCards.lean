/-
  DERIVED. GIVEN WITH THE SEED: THE CARDS: each row of YtpafpmefhfmndaaDoorRows.lean that lists a variable, with what it lists TIED to the program's text (the seventh form; the later family's looks); each row that meets fmt, with fmt's text TOLD by the authors' own Lean function (tested against real Go, not proved from fmt's source: count such statements apart). THE CARD IS WHAT COUNTS. Prove the row's statement (the work); the ties are given (YtpafpmefhfmndaaDoorTie.lean); close each card by the builder's one call (the guide's Derived/Test/ToyasCard.lean, 'card_holds'). Laid BY PROGRAM, IN A SANDBOX (cutbox-door.mjs). By AI agents, Wed Nov 11 2026. No macro, syntax, notation, axiom, sorry.
-/
import Derived.Test.YtpafpmefhfmndaaDoorRows
import GoSem.ClaimSeven
namespace Go.Proofs.YtpafpmefhfmndaaDoor
namespace Rows

/-- THE TIED CARD OF 'postriderlaw18.DiskPlays'. -/
def diskPlaysCard : Claim7 := { stood := { row := diskPlaysRow, standIns := [], harness := (true, "73b3d7690105eb2df5315d10b3956f62cc0ba254103307a7d0b7d62391a2a9a9"), looks := true }, kinds := [], alts := [], laidByText := true, laidKinds := [.handle, .sentinel, .sentinel, .sentinel], laidTests := true, laidLooks := .later }
def DiskPlaysCardSaid : Prop := Claim7.holds Tryd.pinned (.plain (OpenSpec.ofChange diskPlaysSpec)) diskPlaysCard

/-- THE TIED CARD OF 'postriderlaw18.DiskApart'. -/
def diskApartCard : Claim7 := { stood := { row := diskApartRow, standIns := [], harness := (true, "73b3d7690105eb2df5315d10b3956f62cc0ba254103307a7d0b7d62391a2a9a9"), looks := true }, kinds := [], alts := [], laidByText := true, laidKinds := [.handle, .sentinel, .sentinel, .sentinel], laidTests := true, laidLooks := .later }
def DiskApartCardSaid : Prop := Claim7.holds Tryd.pinned (.plain (OpenSpec.ofChange diskApartSpec)) diskApartCard

/-- THE TIED CARD OF 'postriderlaw18.DiskBytes'. -/
def diskBytesCard : Claim7 := { stood := { row := diskBytesRow, standIns := [], harness := (true, "73b3d7690105eb2df5315d10b3956f62cc0ba254103307a7d0b7d62391a2a9a9"), looks := true }, kinds := [], alts := [], laidByText := true, laidKinds := [.handle, .sentinel, .sentinel, .sentinel], laidTests := true, laidLooks := .later }
def DiskBytesCardSaid : Prop := Claim7.holds Tryd.pinned (.plain (OpenSpec.ofChange diskBytesSpec)) diskBytesCard

/-- THE TIED CARD OF 'postriderlaw18.DiskDown'. -/
def diskDownCard : Claim7 := { stood := { row := diskDownRow, standIns := [], harness := (true, "73b3d7690105eb2df5315d10b3956f62cc0ba254103307a7d0b7d62391a2a9a9"), looks := true }, kinds := [], alts := [], laidByText := true, laidKinds := [.handle, .sentinel, .sentinel, .sentinel], laidTests := true, laidLooks := .later }
def DiskDownCardSaid : Prop := Claim7.holds Tryd.pinned (.plain (OpenSpec.ofChange diskDownSpec)) diskDownCard

/-- THE TIED CARD OF 'postriderlaw18.DiskArms'. -/
def diskArmsCard : Claim7 := { stood := { row := diskArmsRow, standIns := [], harness := (true, "73b3d7690105eb2df5315d10b3956f62cc0ba254103307a7d0b7d62391a2a9a9"), looks := true }, kinds := [], alts := [], laidByText := true, laidKinds := [.handle, .sentinel, .sentinel, .sentinel], laidTests := true, laidLooks := .later }
def DiskArmsCardSaid : Prop := Claim7.holds Tryd.pinned (.plain (OpenSpec.ofChange diskArmsSpec)) diskArmsCard

/-- THE TIED CARD OF 'postriderlaw18.DiskNew'. -/
def diskNewCard : Claim7 := { stood := { row := diskNewRow, standIns := [], harness := (true, "73b3d7690105eb2df5315d10b3956f62cc0ba254103307a7d0b7d62391a2a9a9"), looks := true }, kinds := [], alts := [], laidByText := true, laidKinds := [.handle, .sentinel, .sentinel, .sentinel], laidTests := true, laidLooks := .later }
def DiskNewCardSaid : Prop := Claim7.holds Tryd.pinned (.plain (OpenSpec.ofChange diskNewSpec)) diskNewCard

/-- THE SECOND FORM's CARD OF 'postriderlaw18.DiskPlays'. -/
def diskPlaysUptoCard : Claim7 := { stood := { row := diskPlaysUptoRow, standIns := [], harness := (true, "73b3d7690105eb2df5315d10b3956f62cc0ba254103307a7d0b7d62391a2a9a9"), looks := true }, kinds := [], alts := [], laidByText := true, laidKinds := [.handle, .sentinel, .sentinel, .sentinel], laidTests := true, laidLooks := .later }
def DiskPlaysUptoCardSaid : Prop := Claim7.holds Tryd.pinned (.plain (OpenSpec.upto diskPlaysSpec)) diskPlaysUptoCard

/-- THE SECOND FORM's CARD OF 'postriderlaw18.DiskApart'. -/
def diskApartUptoCard : Claim7 := { stood := { row := diskApartUptoRow, standIns := [], harness := (true, "73b3d7690105eb2df5315d10b3956f62cc0ba254103307a7d0b7d62391a2a9a9"), looks := true }, kinds := [], alts := [], laidByText := true, laidKinds := [.handle, .sentinel, .sentinel, .sentinel], laidTests := true, laidLooks := .later }
def DiskApartUptoCardSaid : Prop := Claim7.holds Tryd.pinned (.plain (OpenSpec.upto diskApartSpec)) diskApartUptoCard

/-- THE SECOND FORM's CARD OF 'postriderlaw18.DiskBytes'. -/
def diskBytesUptoCard : Claim7 := { stood := { row := diskBytesUptoRow, standIns := [], harness := (true, "73b3d7690105eb2df5315d10b3956f62cc0ba254103307a7d0b7d62391a2a9a9"), looks := true }, kinds := [], alts := [], laidByText := true, laidKinds := [.handle, .sentinel, .sentinel, .sentinel], laidTests := true, laidLooks := .later }
def DiskBytesUptoCardSaid : Prop := Claim7.holds Tryd.pinned (.plain (OpenSpec.upto diskBytesSpec)) diskBytesUptoCard

/-- THE SECOND FORM's CARD OF 'postriderlaw18.DiskDown'. -/
def diskDownUptoCard : Claim7 := { stood := { row := diskDownUptoRow, standIns := [], harness := (true, "73b3d7690105eb2df5315d10b3956f62cc0ba254103307a7d0b7d62391a2a9a9"), looks := true }, kinds := [], alts := [], laidByText := true, laidKinds := [.handle, .sentinel, .sentinel, .sentinel], laidTests := true, laidLooks := .later }
def DiskDownUptoCardSaid : Prop := Claim7.holds Tryd.pinned (.plain (OpenSpec.upto diskDownSpec)) diskDownUptoCard

/-- THE SECOND FORM's CARD OF 'postriderlaw18.DiskArms'. -/
def diskArmsUptoCard : Claim7 := { stood := { row := diskArmsUptoRow, standIns := [], harness := (true, "73b3d7690105eb2df5315d10b3956f62cc0ba254103307a7d0b7d62391a2a9a9"), looks := true }, kinds := [], alts := [], laidByText := true, laidKinds := [.handle, .sentinel, .sentinel, .sentinel], laidTests := true, laidLooks := .later }
def DiskArmsUptoCardSaid : Prop := Claim7.holds Tryd.pinned (.plain (OpenSpec.upto diskArmsSpec)) diskArmsUptoCard

/-- THE SECOND FORM's CARD OF 'postriderlaw18.DiskNew'. -/
def diskNewUptoCard : Claim7 := { stood := { row := diskNewUptoRow, standIns := [], harness := (true, "73b3d7690105eb2df5315d10b3956f62cc0ba254103307a7d0b7d62391a2a9a9"), looks := true }, kinds := [], alts := [], laidByText := true, laidKinds := [.handle, .sentinel, .sentinel, .sentinel], laidTests := true, laidLooks := .later }
def DiskNewUptoCardSaid : Prop := Claim7.holds Tryd.pinned (.plain (OpenSpec.upto diskNewSpec)) diskNewUptoCard
end Rows
end Go.Proofs.YtpafpmefhfmndaaDoor
