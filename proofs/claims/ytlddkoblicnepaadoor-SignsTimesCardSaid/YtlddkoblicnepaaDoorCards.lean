/-
  DERIVED. GIVEN WITH THE SEED: THE CARDS: each row of YtlddkoblicnepaaDoorRows.lean that lists a variable, with what it lists TIED to the program's text (the seventh form; the later family's looks); each row that meets fmt, with fmt's text TOLD by the authors' own Lean function (tested against real Go, not proved from fmt's source: count such statements apart). THE CARD IS WHAT COUNTS. Prove the row's statement (the work); the ties are given (YtlddkoblicnepaaDoorTie.lean); close each card by the builder's one call (the guide's Derived/Test/ToyasCard.lean, 'card_holds'). Laid BY PROGRAM, IN A SANDBOX (cutbox-door.mjs). By AI agents, Wed Nov 11 2026. No macro, syntax, notation, axiom, sorry.
-/
import Derived.Test.YtlddkoblicnepaaDoorRows
import GoSem.ClaimSeven
namespace Go.Proofs.YtlddkoblicnepaaDoor
namespace Rows

/-- THE TIED CARD OF 'postriderlaw13.SignsFlags'. -/
def signsFlagsCard : Claim7 := { stood := { row := signsFlagsRow, standIns := [], harness := (true, "9ee2393b52383a1fbff8081743b9d351da6f8d03d9c017abb901e3921375f594"), looks := true }, kinds := [], alts := [], laidByText := true, laidKinds := [.sentinel, .sentinel, .sentinel, .sentinel, .sentinel, .sentinel, .sentinel, .sentinel], laidTests := true, laidLooks := .later }
def SignsFlagsCardSaid : Prop := Claim7.holds Tryd.pinned (.plain (OpenSpec.ofChange signsFlagsSpec)) signsFlagsCard

/-- THE TIED CARD OF 'postriderlaw13.SignsMarks'. -/
def signsMarksCard : Claim7 := { stood := { row := signsMarksRow, standIns := [], harness := (true, "9ee2393b52383a1fbff8081743b9d351da6f8d03d9c017abb901e3921375f594"), looks := true }, kinds := [], alts := [], laidByText := true, laidKinds := [.sentinel, .sentinel, .sentinel, .sentinel, .sentinel, .sentinel, .sentinel, .sentinel], laidTests := true, laidLooks := .later }
def SignsMarksCardSaid : Prop := Claim7.holds Tryd.pinned (.plain (OpenSpec.ofChange signsMarksSpec)) signsMarksCard

/-- THE TIED CARD OF 'postriderlaw13.SignsBack'. -/
def signsBackCard : Claim7 := { stood := { row := signsBackRow, standIns := [], harness := (true, "9ee2393b52383a1fbff8081743b9d351da6f8d03d9c017abb901e3921375f594"), looks := true }, kinds := [], alts := [], laidByText := true, laidKinds := [.sentinel, .sentinel, .sentinel, .sentinel, .sentinel, .sentinel, .sentinel, .sentinel], laidTests := true, laidLooks := .later }
def SignsBackCardSaid : Prop := Claim7.holds Tryd.pinned (.plain (OpenSpec.ofChange signsBackSpec)) signsBackCard

/-- THE TIED CARD OF 'postriderlaw13.SignsTurns'. -/
def signsTurnsCard : Claim7 := { stood := { row := signsTurnsRow, standIns := [], harness := (true, "9ee2393b52383a1fbff8081743b9d351da6f8d03d9c017abb901e3921375f594"), looks := true }, kinds := [], alts := [], laidByText := true, laidKinds := [.sentinel, .sentinel, .sentinel, .sentinel, .sentinel, .sentinel, .sentinel, .sentinel], laidTests := true, laidLooks := .later }
def SignsTurnsCardSaid : Prop := Claim7.holds Tryd.pinned (.plain (OpenSpec.ofChange signsTurnsSpec)) signsTurnsCard

/-- THE TIED CARD OF 'postriderlaw13.SignsSame'. -/
def signsSameCard : Claim7 := { stood := { row := signsSameRow, standIns := [], harness := (true, "9ee2393b52383a1fbff8081743b9d351da6f8d03d9c017abb901e3921375f594"), looks := true }, kinds := [], alts := [], laidByText := true, laidKinds := [.sentinel, .sentinel, .sentinel, .sentinel, .sentinel, .sentinel, .sentinel, .sentinel], laidTests := true, laidLooks := .later }
def SignsSameCardSaid : Prop := Claim7.holds Tryd.pinned (.plain (OpenSpec.ofChange signsSameSpec)) signsSameCard

/-- THE TIED CARD OF 'postriderlaw13.SignsTimes'. -/
def signsTimesCard : Claim7 := { stood := { row := signsTimesRow, standIns := [], harness := (true, "9ee2393b52383a1fbff8081743b9d351da6f8d03d9c017abb901e3921375f594"), looks := true }, kinds := [], alts := [], laidByText := true, laidKinds := [.sentinel, .sentinel, .sentinel, .sentinel, .sentinel, .sentinel, .sentinel, .sentinel], laidTests := true, laidLooks := .later }
def SignsTimesCardSaid : Prop := Claim7.holds Tryd.pinned (.plain (OpenSpec.ofChange signsTimesSpec)) signsTimesCard

/-- THE SECOND FORM's CARD OF 'postriderlaw13.SignsFlags'. -/
def signsFlagsUptoCard : Claim7 := { stood := { row := signsFlagsUptoRow, standIns := [], harness := (true, "9ee2393b52383a1fbff8081743b9d351da6f8d03d9c017abb901e3921375f594"), looks := true }, kinds := [], alts := [], laidByText := true, laidKinds := [.sentinel, .sentinel, .sentinel, .sentinel, .sentinel, .sentinel, .sentinel, .sentinel], laidTests := true, laidLooks := .later }
def SignsFlagsUptoCardSaid : Prop := Claim7.holds Tryd.pinned (.plain (OpenSpec.upto signsFlagsSpec)) signsFlagsUptoCard

/-- THE SECOND FORM's CARD OF 'postriderlaw13.SignsMarks'. -/
def signsMarksUptoCard : Claim7 := { stood := { row := signsMarksUptoRow, standIns := [], harness := (true, "9ee2393b52383a1fbff8081743b9d351da6f8d03d9c017abb901e3921375f594"), looks := true }, kinds := [], alts := [], laidByText := true, laidKinds := [.sentinel, .sentinel, .sentinel, .sentinel, .sentinel, .sentinel, .sentinel, .sentinel], laidTests := true, laidLooks := .later }
def SignsMarksUptoCardSaid : Prop := Claim7.holds Tryd.pinned (.plain (OpenSpec.upto signsMarksSpec)) signsMarksUptoCard

/-- THE SECOND FORM's CARD OF 'postriderlaw13.SignsBack'. -/
def signsBackUptoCard : Claim7 := { stood := { row := signsBackUptoRow, standIns := [], harness := (true, "9ee2393b52383a1fbff8081743b9d351da6f8d03d9c017abb901e3921375f594"), looks := true }, kinds := [], alts := [], laidByText := true, laidKinds := [.sentinel, .sentinel, .sentinel, .sentinel, .sentinel, .sentinel, .sentinel, .sentinel], laidTests := true, laidLooks := .later }
def SignsBackUptoCardSaid : Prop := Claim7.holds Tryd.pinned (.plain (OpenSpec.upto signsBackSpec)) signsBackUptoCard

/-- THE SECOND FORM's CARD OF 'postriderlaw13.SignsTurns'. -/
def signsTurnsUptoCard : Claim7 := { stood := { row := signsTurnsUptoRow, standIns := [], harness := (true, "9ee2393b52383a1fbff8081743b9d351da6f8d03d9c017abb901e3921375f594"), looks := true }, kinds := [], alts := [], laidByText := true, laidKinds := [.sentinel, .sentinel, .sentinel, .sentinel, .sentinel, .sentinel, .sentinel, .sentinel], laidTests := true, laidLooks := .later }
def SignsTurnsUptoCardSaid : Prop := Claim7.holds Tryd.pinned (.plain (OpenSpec.upto signsTurnsSpec)) signsTurnsUptoCard

/-- THE SECOND FORM's CARD OF 'postriderlaw13.SignsSame'. -/
def signsSameUptoCard : Claim7 := { stood := { row := signsSameUptoRow, standIns := [], harness := (true, "9ee2393b52383a1fbff8081743b9d351da6f8d03d9c017abb901e3921375f594"), looks := true }, kinds := [], alts := [], laidByText := true, laidKinds := [.sentinel, .sentinel, .sentinel, .sentinel, .sentinel, .sentinel, .sentinel, .sentinel], laidTests := true, laidLooks := .later }
def SignsSameUptoCardSaid : Prop := Claim7.holds Tryd.pinned (.plain (OpenSpec.upto signsSameSpec)) signsSameUptoCard

/-- THE SECOND FORM's CARD OF 'postriderlaw13.SignsTimes'. -/
def signsTimesUptoCard : Claim7 := { stood := { row := signsTimesUptoRow, standIns := [], harness := (true, "9ee2393b52383a1fbff8081743b9d351da6f8d03d9c017abb901e3921375f594"), looks := true }, kinds := [], alts := [], laidByText := true, laidKinds := [.sentinel, .sentinel, .sentinel, .sentinel, .sentinel, .sentinel, .sentinel, .sentinel], laidTests := true, laidLooks := .later }
def SignsTimesUptoCardSaid : Prop := Claim7.holds Tryd.pinned (.plain (OpenSpec.upto signsTimesSpec)) signsTimesUptoCard
end Rows
end Go.Proofs.YtlddkoblicnepaaDoor
