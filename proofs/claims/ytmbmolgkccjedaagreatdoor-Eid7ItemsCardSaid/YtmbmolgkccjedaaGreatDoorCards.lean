/-
  DERIVED. GIVEN WITH THE SEED: THE CARDS: each row of YtmbmolgkccjedaaGreatDoorRows.lean that lists a variable, with what it lists TIED to the program's text (the seventh form; the later family's looks); each row that meets fmt, with fmt's text TOLD by the authors' own Lean function (tested against real Go, not proved from fmt's source: count such statements apart). THE CARD IS WHAT COUNTS. Prove the row's statement (the work); the ties are given (YtmbmolgkccjedaaGreatDoorTie.lean); close each card by the builder's one call (the guide's Derived/Test/ToyasCard.lean, 'card_holds'). Laid BY PROGRAM, IN A SANDBOX (cutbox-door.mjs). By AI agents, Wed Nov 11 2026. No macro, syntax, notation, axiom, sorry.
-/
import Derived.Test.YtmbmolgkccjedaaGreatDoorRows
import GoSem.ClaimSeven
namespace Go.Proofs.YtmbmolgkccjedaaGreatDoor
namespace Rows

/-- THE TIED CARD OF 'postriderlaw10.Eid7Items'. -/
def eid7ItemsCard : Claim7 := { stood := { row := eid7ItemsRow, standIns := [], harness := (true, "ef928ddfecee49a11a833aa0b83369b01dd20ab719fd071a3c7527d38ad7c9b4"), looks := true }, kinds := [], alts := [], laidByText := true, laidKinds := [.data, .data, .data, .handle, .sentinel, .sentinel, .sentinel, .sentinel, .sentinel, .sentinel, .sentinel, .sentinel, .sentinel, .data], laidTests := true, laidLooks := .later }
def Eid7ItemsCardSaid : Prop := Claim7.holds Tryz.pinned (.plain (OpenSpec.ofChange eid7ItemsSpec)) eid7ItemsCard

/-- THE TIED CARD OF 'postriderlaw10.Eid7Codes'. -/
def eid7CodesCard : Claim7 := { stood := { row := eid7CodesRow, standIns := [], harness := (true, "ef928ddfecee49a11a833aa0b83369b01dd20ab719fd071a3c7527d38ad7c9b4"), looks := true }, kinds := [], alts := [], laidByText := true, laidKinds := [.data, .data, .data, .handle, .sentinel, .sentinel, .sentinel, .sentinel, .sentinel, .sentinel, .sentinel, .sentinel, .sentinel, .data], laidTests := true, laidLooks := .later }
def Eid7CodesCardSaid : Prop := Claim7.holds Tryz.pinned (.plain (OpenSpec.ofChange eid7CodesSpec)) eid7CodesCard

/-- THE TIED CARD OF 'postriderlaw10.Eid7Back'. -/
def eid7BackCard : Claim7 := { stood := { row := eid7BackRow, standIns := [], harness := (true, "ef928ddfecee49a11a833aa0b83369b01dd20ab719fd071a3c7527d38ad7c9b4"), looks := true }, kinds := [], alts := [], laidByText := true, laidKinds := [.data, .data, .data, .handle, .sentinel, .sentinel, .sentinel, .sentinel, .sentinel, .sentinel, .sentinel, .sentinel, .sentinel, .data], laidTests := true, laidLooks := .later }
def Eid7BackCardSaid : Prop := Claim7.holds Tryz.pinned (.plain (OpenSpec.ofChange eid7BackSpec)) eid7BackCard

/-- THE TIED CARD OF 'postriderlaw10.Eid7Apart'. -/
def eid7ApartCard : Claim7 := { stood := { row := eid7ApartRow, standIns := [], harness := (true, "ef928ddfecee49a11a833aa0b83369b01dd20ab719fd071a3c7527d38ad7c9b4"), looks := true }, kinds := [], alts := [], laidByText := true, laidKinds := [.data, .data, .data, .handle, .sentinel, .sentinel, .sentinel, .sentinel, .sentinel, .sentinel, .sentinel, .sentinel, .sentinel, .data], laidTests := true, laidLooks := .later }
def Eid7ApartCardSaid : Prop := Claim7.holds Tryz.pinned (.plain (OpenSpec.ofChange eid7ApartSpec)) eid7ApartCard

/-- THE TIED CARD OF 'postriderlaw10.Eid7Bytes'. -/
def eid7BytesCard : Claim7 := { stood := { row := eid7BytesRow, standIns := [], harness := (true, "ef928ddfecee49a11a833aa0b83369b01dd20ab719fd071a3c7527d38ad7c9b4"), looks := true }, kinds := [], alts := [], laidByText := true, laidKinds := [.data, .data, .data, .handle, .sentinel, .sentinel, .sentinel, .sentinel, .sentinel, .sentinel, .sentinel, .sentinel, .sentinel, .data], laidTests := true, laidLooks := .later }
def Eid7BytesCardSaid : Prop := Claim7.holds Tryz.pinned (.plain (OpenSpec.ofChange eid7BytesSpec)) eid7BytesCard

/-- THE SECOND FORM's CARD OF 'postriderlaw10.Eid7Items'. -/
def eid7ItemsUptoCard : Claim7 := { stood := { row := eid7ItemsUptoRow, standIns := [], harness := (true, "ef928ddfecee49a11a833aa0b83369b01dd20ab719fd071a3c7527d38ad7c9b4"), looks := true }, kinds := [], alts := [], laidByText := true, laidKinds := [.data, .data, .data, .handle, .sentinel, .sentinel, .sentinel, .sentinel, .sentinel, .sentinel, .sentinel, .sentinel, .sentinel, .data], laidTests := true, laidLooks := .later }
def Eid7ItemsUptoCardSaid : Prop := Claim7.holds Tryz.pinned (.plain (OpenSpec.upto eid7ItemsSpec)) eid7ItemsUptoCard

/-- THE SECOND FORM's CARD OF 'postriderlaw10.Eid7Codes'. -/
def eid7CodesUptoCard : Claim7 := { stood := { row := eid7CodesUptoRow, standIns := [], harness := (true, "ef928ddfecee49a11a833aa0b83369b01dd20ab719fd071a3c7527d38ad7c9b4"), looks := true }, kinds := [], alts := [], laidByText := true, laidKinds := [.data, .data, .data, .handle, .sentinel, .sentinel, .sentinel, .sentinel, .sentinel, .sentinel, .sentinel, .sentinel, .sentinel, .data], laidTests := true, laidLooks := .later }
def Eid7CodesUptoCardSaid : Prop := Claim7.holds Tryz.pinned (.plain (OpenSpec.upto eid7CodesSpec)) eid7CodesUptoCard

/-- THE SECOND FORM's CARD OF 'postriderlaw10.Eid7Back'. -/
def eid7BackUptoCard : Claim7 := { stood := { row := eid7BackUptoRow, standIns := [], harness := (true, "ef928ddfecee49a11a833aa0b83369b01dd20ab719fd071a3c7527d38ad7c9b4"), looks := true }, kinds := [], alts := [], laidByText := true, laidKinds := [.data, .data, .data, .handle, .sentinel, .sentinel, .sentinel, .sentinel, .sentinel, .sentinel, .sentinel, .sentinel, .sentinel, .data], laidTests := true, laidLooks := .later }
def Eid7BackUptoCardSaid : Prop := Claim7.holds Tryz.pinned (.plain (OpenSpec.upto eid7BackSpec)) eid7BackUptoCard

/-- THE SECOND FORM's CARD OF 'postriderlaw10.Eid7Apart'. -/
def eid7ApartUptoCard : Claim7 := { stood := { row := eid7ApartUptoRow, standIns := [], harness := (true, "ef928ddfecee49a11a833aa0b83369b01dd20ab719fd071a3c7527d38ad7c9b4"), looks := true }, kinds := [], alts := [], laidByText := true, laidKinds := [.data, .data, .data, .handle, .sentinel, .sentinel, .sentinel, .sentinel, .sentinel, .sentinel, .sentinel, .sentinel, .sentinel, .data], laidTests := true, laidLooks := .later }
def Eid7ApartUptoCardSaid : Prop := Claim7.holds Tryz.pinned (.plain (OpenSpec.upto eid7ApartSpec)) eid7ApartUptoCard

/-- THE SECOND FORM's CARD OF 'postriderlaw10.Eid7Bytes'. -/
def eid7BytesUptoCard : Claim7 := { stood := { row := eid7BytesUptoRow, standIns := [], harness := (true, "ef928ddfecee49a11a833aa0b83369b01dd20ab719fd071a3c7527d38ad7c9b4"), looks := true }, kinds := [], alts := [], laidByText := true, laidKinds := [.data, .data, .data, .handle, .sentinel, .sentinel, .sentinel, .sentinel, .sentinel, .sentinel, .sentinel, .sentinel, .sentinel, .data], laidTests := true, laidLooks := .later }
def Eid7BytesUptoCardSaid : Prop := Claim7.holds Tryz.pinned (.plain (OpenSpec.upto eid7BytesSpec)) eid7BytesUptoCard
end Rows
end Go.Proofs.YtmbmolgkccjedaaGreatDoor
