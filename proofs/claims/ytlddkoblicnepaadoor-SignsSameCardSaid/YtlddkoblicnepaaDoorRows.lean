/-
  NARROWER THAN 'FOR EVERY INPUT', by the rows' own cells (each row's printed sentence says how): SignsFlags: laid · SignsMarks: laid · SignsBack: laid · SignsTurns: laid · SignsSame: laid · SignsTimes: laid.
  DERIVED. THE GIVEN ROWS OF THIS SEAT. 6 by the template 'for every input the law returns true; each argument reads behind the call as it read before'; 0 by the template 'total and deterministic' (their statements: YtlddkoblicnepaaDoorTotals.lean).
  GIVEN WITH THE SEED: the statements are not yours to turn. If you find one false, say at which input.
  Laid BY PROGRAM, IN A SANDBOX (cutbox-rows.mjs): the forced cells as the released guide's own fill.sh prints them over the translation 1bf02467a9a6212a… (all of the seat's roots in one cut). By AI agents, Wed Nov 11 2026. No macro, syntax, notation, axiom, sorry.
-/
import Derived.Test.YtlddkoblicnepaaDoorChecked
import GoSem.Claim
import GoSem.ClaimJoined
import GoSem.ClaimMapViews
import Derived.JoinedTies
import Derived.KernelRfl
namespace Go.Proofs.YtlddkoblicnepaaDoor
/- THE CELL 'sum', in the pinned program and in every row, IS THE sha256 OF THE DUMP (.gsa) THAT YtlddkoblicnepaaDoorProg.lean LOADS. Nothing in Lean hashes anything: it is a label: what it is worth is what the hold of that sum in a sandbox is worth. -/
noncomputable def Tryd.pinned : Pinned := { name := "ytlddkoblicnepaadoor", sum := "1bf02467a9a6212a6259e3ed3b15429dfbe64a6209b63b43d3ceabcb555a9c01", checked := Tryd.checked }
namespace Rows
def none {H : Type} : Left H := { results := [], args := [] }

/- WHAT THE LISTED PACKAGE-LEVEL VARIABLES READ AS WHEN THE CALL BEGINS. Each datum BY PROGRAM (the guide's laid-datum.mjs) off the statement by which the dump's own 'gosem.cut.vars' lays the variable. In a bare row this is a premise. The card (YtlddkoblicnepaaDoorCards.lean) ties it to the program's text. -/
def laid_postrider_signs_errArg {H : Type} : DataW H := .iface "*errors.errorString" (.ptr (.agg [.lit (.string [115, 105, 103, 110, 115, 58, 32, 110, 111, 32, 115, 117, 99, 104, 32, 102, 108, 97, 103, 115, 44, 32, 111, 114, 32, 110, 111, 32, 115, 117, 99, 104, 32, 112, 114, 105, 111, 114, 105, 116, 121])]))
def laid_postrider_signs_errNum {H : Type} : DataW H := .iface "*errors.errorString" (.ptr (.agg [.lit (.string [115, 105, 103, 110, 115, 58, 32, 110, 111, 32, 110, 117, 109, 98, 101, 114, 44, 32, 111, 114, 32, 116, 111, 111, 32, 103, 114, 101, 97, 116, 32, 97, 32, 111, 110, 101])]))
def laid_postrider_signs_errAccepted {H : Type} : DataW H := .iface "*errors.errorString" (.ptr (.agg [.lit (.string [115, 105, 103, 110, 115, 58, 32, 118, 101, 114, 115, 105, 111, 110, 32, 55, 32, 104, 97, 115, 32, 110, 111, 32, 114, 101, 112, 111, 114, 116, 32, 111, 102, 32, 119, 104, 97, 116, 32, 119, 97, 115, 32, 97, 99, 99, 101, 112, 116, 101, 100])]))
def laid_postrider_signs_errSingle {H : Type} : DataW H := .iface "*errors.errorString" (.ptr (.agg [.lit (.string [115, 105, 103, 110, 115, 58, 32, 118, 101, 114, 115, 105, 111, 110, 32, 55, 32, 104, 97, 115, 32, 110, 111, 32, 98, 117, 110, 100, 108, 101, 32, 116, 111, 32, 109, 111, 114, 101, 32, 116, 104, 97, 110, 32, 97, 32, 115, 105, 110, 103, 108, 101, 32, 101, 110, 100, 112, 111, 105, 110, 116])]))
def laid_postrider_signs_errTimed {H : Type} : DataW H := .iface "*errors.errorString" (.ptr (.agg [.lit (.string [115, 105, 103, 110, 115, 58, 32, 118, 101, 114, 115, 105, 111, 110, 32, 54, 32, 104, 97, 115, 32, 116, 105, 109, 101, 115, 32, 105, 110, 32, 97, 108, 108, 32, 114, 101, 112, 111, 114, 116, 115, 44, 32, 97, 110, 100, 32, 110, 111, 119, 104, 101, 114, 101, 32, 101, 108, 115, 101])]))
def laid_postrider_signs_errPassed {H : Type} : DataW H := .iface "*errors.errorString" (.ptr (.agg [.lit (.string [115, 105, 103, 110, 115, 58, 32, 118, 101, 114, 115, 105, 111, 110, 32, 55, 32, 104, 97, 115, 32, 110, 111, 32, 102, 108, 97, 103, 32, 111, 102, 32, 97, 32, 98, 108, 111, 99, 107, 32, 116, 104, 97, 116, 32, 119, 97, 115, 32, 112, 97, 115, 115, 101, 100, 32, 111, 110])]))
def laid_postrider_signs_errNamed {H : Type} : DataW H := .iface "*errors.errorString" (.ptr (.agg [.lit (.string [115, 105, 103, 110, 115, 58, 32, 118, 101, 114, 115, 105, 111, 110, 32, 55, 32, 104, 97, 115, 32, 110, 111, 32, 98, 108, 111, 99, 107, 32, 116, 104, 97, 116, 32, 114, 101, 102, 101, 114, 115, 32, 116, 111, 32, 110, 97, 109, 101, 115])]))
def laid_postrider_signs_errTime {H : Type} : DataW H := .iface "*errors.errorString" (.ptr (.agg [.lit (.string [115, 105, 103, 110, 115, 58, 32, 118, 101, 114, 115, 105, 111, 110, 32, 54, 32, 104, 97, 115, 32, 110, 111, 32, 112, 97, 114, 116, 115, 32, 111, 102, 32, 115, 101, 99, 111, 110, 100, 115])]))

/-- 'postriderlaw13.SignsFlags': WHATEVER THE INPUT: true; the input reads as it did. -/
def signsFlagsSpec : ChangeSpec := { name := "signsFlags", fn := fun _ => fun
  | [d1, d2, d3, d4] => { results := [.lit (.bool true)], args := [d1, d2, d3, d4] }
  | _ => none }
def signsFlagsRow : OpenClaim := { program := "ytlddkoblicnepaadoor", sum := "1bf02467a9a6212a6259e3ed3b15429dfbe64a6209b63b43d3ceabcb555a9c01", func := "postrider/postriderlaw13.SignsFlags", spec := "signsFlags", inPlace := ["internal/reflectlite.TypeOf"], unfollowed := true, recurses := true, named := ["postrider/signs.errArg", "postrider/signs.errAccepted", "postrider/signs.errSingle", "postrider/signs.errNum", "postrider/signs.errTimed", "postrider/signs.errPassed", "postrider/signs.errNamed", "postrider/signs.errTime"], apart := false, laid := [("postrider/signs.errArg", laid_postrider_signs_errArg), ("postrider/signs.errNum", laid_postrider_signs_errNum), ("postrider/signs.errAccepted", laid_postrider_signs_errAccepted), ("postrider/signs.errSingle", laid_postrider_signs_errSingle), ("postrider/signs.errTimed", laid_postrider_signs_errTimed), ("postrider/signs.errPassed", laid_postrider_signs_errPassed), ("postrider/signs.errNamed", laid_postrider_signs_errNamed), ("postrider/signs.errTime", laid_postrider_signs_errTime)] }
def SignsFlagsSaid : Prop := signsFlagsRow.holds Tryd.pinned (OpenSpec.ofChange signsFlagsSpec)

/-- ITS FALSE NEIGHBOUR: 'it returns false'. Refute it at one input. -/
def signsFlagsWrong : ChangeSpec := { name := "signsFlags", fn := fun _ => fun
  | [d1, d2, d3, d4] => { results := [.lit (.bool false)], args := [d1, d2, d3, d4] }
  | _ => none }
def SignsFlagsWrongFalsely : Prop := signsFlagsRow.holds Tryd.pinned (OpenSpec.ofChange signsFlagsWrong)

/-- 'postriderlaw13.SignsMarks': WHATEVER THE INPUT: true; the input reads as it did. -/
def signsMarksSpec : ChangeSpec := { name := "signsMarks", fn := fun _ => fun
  | [d1, d2, d3, d4] => { results := [.lit (.bool true)], args := [d1, d2, d3, d4] }
  | _ => none }
def signsMarksRow : OpenClaim := { program := "ytlddkoblicnepaadoor", sum := "1bf02467a9a6212a6259e3ed3b15429dfbe64a6209b63b43d3ceabcb555a9c01", func := "postrider/postriderlaw13.SignsMarks", spec := "signsMarks", inPlace := ["internal/reflectlite.TypeOf"], unfollowed := true, recurses := true, named := ["postrider/signs.errArg", "postrider/signs.errAccepted", "postrider/signs.errSingle", "postrider/signs.errNum", "postrider/signs.errTimed", "postrider/signs.errPassed", "postrider/signs.errNamed", "postrider/signs.errTime"], apart := false, laid := [("postrider/signs.errArg", laid_postrider_signs_errArg), ("postrider/signs.errNum", laid_postrider_signs_errNum), ("postrider/signs.errAccepted", laid_postrider_signs_errAccepted), ("postrider/signs.errSingle", laid_postrider_signs_errSingle), ("postrider/signs.errTimed", laid_postrider_signs_errTimed), ("postrider/signs.errPassed", laid_postrider_signs_errPassed), ("postrider/signs.errNamed", laid_postrider_signs_errNamed), ("postrider/signs.errTime", laid_postrider_signs_errTime)] }
def SignsMarksSaid : Prop := signsMarksRow.holds Tryd.pinned (OpenSpec.ofChange signsMarksSpec)

/-- ITS FALSE NEIGHBOUR: 'it returns false'. Refute it at one input. -/
def signsMarksWrong : ChangeSpec := { name := "signsMarks", fn := fun _ => fun
  | [d1, d2, d3, d4] => { results := [.lit (.bool false)], args := [d1, d2, d3, d4] }
  | _ => none }
def SignsMarksWrongFalsely : Prop := signsMarksRow.holds Tryd.pinned (OpenSpec.ofChange signsMarksWrong)

/-- 'postriderlaw13.SignsBack': WHATEVER THE INPUT: true; the input reads as it did. -/
def signsBackSpec : ChangeSpec := { name := "signsBack", fn := fun _ => fun
  | [d1, d2, d3, d4] => { results := [.lit (.bool true)], args := [d1, d2, d3, d4] }
  | _ => none }
def signsBackRow : OpenClaim := { program := "ytlddkoblicnepaadoor", sum := "1bf02467a9a6212a6259e3ed3b15429dfbe64a6209b63b43d3ceabcb555a9c01", func := "postrider/postriderlaw13.SignsBack", spec := "signsBack", inPlace := ["internal/reflectlite.TypeOf"], unfollowed := true, recurses := true, named := ["postrider/signs.errArg", "postrider/signs.errAccepted", "postrider/signs.errSingle", "postrider/signs.errNum", "postrider/signs.errTimed", "postrider/signs.errPassed", "postrider/signs.errNamed", "postrider/signs.errTime"], apart := false, laid := [("postrider/signs.errArg", laid_postrider_signs_errArg), ("postrider/signs.errNum", laid_postrider_signs_errNum), ("postrider/signs.errAccepted", laid_postrider_signs_errAccepted), ("postrider/signs.errSingle", laid_postrider_signs_errSingle), ("postrider/signs.errTimed", laid_postrider_signs_errTimed), ("postrider/signs.errPassed", laid_postrider_signs_errPassed), ("postrider/signs.errNamed", laid_postrider_signs_errNamed), ("postrider/signs.errTime", laid_postrider_signs_errTime)] }
def SignsBackSaid : Prop := signsBackRow.holds Tryd.pinned (OpenSpec.ofChange signsBackSpec)

/-- ITS FALSE NEIGHBOUR: 'it returns false'. Refute it at one input. -/
def signsBackWrong : ChangeSpec := { name := "signsBack", fn := fun _ => fun
  | [d1, d2, d3, d4] => { results := [.lit (.bool false)], args := [d1, d2, d3, d4] }
  | _ => none }
def SignsBackWrongFalsely : Prop := signsBackRow.holds Tryd.pinned (OpenSpec.ofChange signsBackWrong)

/-- 'postriderlaw13.SignsTurns': WHATEVER THE INPUT: true; the input reads as it did. -/
def signsTurnsSpec : ChangeSpec := { name := "signsTurns", fn := fun _ => fun
  | [d1, d2, d3, d4] => { results := [.lit (.bool true)], args := [d1, d2, d3, d4] }
  | _ => none }
def signsTurnsRow : OpenClaim := { program := "ytlddkoblicnepaadoor", sum := "1bf02467a9a6212a6259e3ed3b15429dfbe64a6209b63b43d3ceabcb555a9c01", func := "postrider/postriderlaw13.SignsTurns", spec := "signsTurns", inPlace := ["internal/reflectlite.TypeOf"], unfollowed := true, recurses := true, named := ["postrider/signs.errArg", "postrider/signs.errAccepted", "postrider/signs.errSingle", "postrider/signs.errNum", "postrider/signs.errTimed", "postrider/signs.errPassed", "postrider/signs.errNamed", "postrider/signs.errTime"], apart := false, laid := [("postrider/signs.errArg", laid_postrider_signs_errArg), ("postrider/signs.errNum", laid_postrider_signs_errNum), ("postrider/signs.errAccepted", laid_postrider_signs_errAccepted), ("postrider/signs.errSingle", laid_postrider_signs_errSingle), ("postrider/signs.errTimed", laid_postrider_signs_errTimed), ("postrider/signs.errPassed", laid_postrider_signs_errPassed), ("postrider/signs.errNamed", laid_postrider_signs_errNamed), ("postrider/signs.errTime", laid_postrider_signs_errTime)] }
def SignsTurnsSaid : Prop := signsTurnsRow.holds Tryd.pinned (OpenSpec.ofChange signsTurnsSpec)

/-- ITS FALSE NEIGHBOUR: 'it returns false'. Refute it at one input. -/
def signsTurnsWrong : ChangeSpec := { name := "signsTurns", fn := fun _ => fun
  | [d1, d2, d3, d4] => { results := [.lit (.bool false)], args := [d1, d2, d3, d4] }
  | _ => none }
def SignsTurnsWrongFalsely : Prop := signsTurnsRow.holds Tryd.pinned (OpenSpec.ofChange signsTurnsWrong)

/-- 'postriderlaw13.SignsSame': WHATEVER THE INPUT: true; the input reads as it did. -/
def signsSameSpec : ChangeSpec := { name := "signsSame", fn := fun _ => fun
  | [d1, d2, d3, d4] => { results := [.lit (.bool true)], args := [d1, d2, d3, d4] }
  | _ => none }
def signsSameRow : OpenClaim := { program := "ytlddkoblicnepaadoor", sum := "1bf02467a9a6212a6259e3ed3b15429dfbe64a6209b63b43d3ceabcb555a9c01", func := "postrider/postriderlaw13.SignsSame", spec := "signsSame", inPlace := ["internal/reflectlite.TypeOf"], unfollowed := true, recurses := true, named := ["postrider/signs.errArg", "postrider/signs.errAccepted", "postrider/signs.errSingle", "postrider/signs.errNum", "postrider/signs.errTimed", "postrider/signs.errPassed", "postrider/signs.errNamed", "postrider/signs.errTime"], apart := false, laid := [("postrider/signs.errArg", laid_postrider_signs_errArg), ("postrider/signs.errNum", laid_postrider_signs_errNum), ("postrider/signs.errAccepted", laid_postrider_signs_errAccepted), ("postrider/signs.errSingle", laid_postrider_signs_errSingle), ("postrider/signs.errTimed", laid_postrider_signs_errTimed), ("postrider/signs.errPassed", laid_postrider_signs_errPassed), ("postrider/signs.errNamed", laid_postrider_signs_errNamed), ("postrider/signs.errTime", laid_postrider_signs_errTime)] }
def SignsSameSaid : Prop := signsSameRow.holds Tryd.pinned (OpenSpec.ofChange signsSameSpec)

/-- ITS FALSE NEIGHBOUR: 'it returns false'. Refute it at one input. -/
def signsSameWrong : ChangeSpec := { name := "signsSame", fn := fun _ => fun
  | [d1, d2, d3, d4] => { results := [.lit (.bool false)], args := [d1, d2, d3, d4] }
  | _ => none }
def SignsSameWrongFalsely : Prop := signsSameRow.holds Tryd.pinned (OpenSpec.ofChange signsSameWrong)

/-- 'postriderlaw13.SignsTimes': WHATEVER THE INPUT: true; the input reads as it did. -/
def signsTimesSpec : ChangeSpec := { name := "signsTimes", fn := fun _ => fun
  | [d] => { results := [.lit (.bool true)], args := [d] }
  | _ => none }
def signsTimesRow : OpenClaim := { program := "ytlddkoblicnepaadoor", sum := "1bf02467a9a6212a6259e3ed3b15429dfbe64a6209b63b43d3ceabcb555a9c01", func := "postrider/postriderlaw13.SignsTimes", spec := "signsTimes", inPlace := ["internal/reflectlite.TypeOf"], unfollowed := true, recurses := true, named := ["postrider/signs.errArg", "postrider/signs.errAccepted", "postrider/signs.errSingle", "postrider/signs.errNum", "postrider/signs.errTimed", "postrider/signs.errPassed", "postrider/signs.errNamed", "postrider/signs.errTime"], apart := false, laid := [("postrider/signs.errArg", laid_postrider_signs_errArg), ("postrider/signs.errNum", laid_postrider_signs_errNum), ("postrider/signs.errAccepted", laid_postrider_signs_errAccepted), ("postrider/signs.errSingle", laid_postrider_signs_errSingle), ("postrider/signs.errTimed", laid_postrider_signs_errTimed), ("postrider/signs.errPassed", laid_postrider_signs_errPassed), ("postrider/signs.errNamed", laid_postrider_signs_errNamed), ("postrider/signs.errTime", laid_postrider_signs_errTime)] }
def SignsTimesSaid : Prop := signsTimesRow.holds Tryd.pinned (OpenSpec.ofChange signsTimesSpec)

/-- ITS FALSE NEIGHBOUR: 'it returns false'. Refute it at one input. -/
def signsTimesWrong : ChangeSpec := { name := "signsTimes", fn := fun _ => fun
  | [d] => { results := [.lit (.bool false)], args := [d] }
  | _ => none }
def SignsTimesWrongFalsely : Prop := signsTimesRow.holds Tryd.pinned (OpenSpec.ofChange signsTimesWrong)

/- THE SECOND FORM. 'bulk': how many values and letters a reading holds, each counted each time it is reached (what is shared counts as often as it is met; a slice's spare places count too). A statement '..UptoSaid' is the law's where the arguments, and the package variables that the reading takes, are together of bulk at most 1048576: NARROWER than '..Said'. Prove '..Said' where nothing that the law and all that it calls make is longer than what came in: it says more and counts as full. Else prove '..UptoSaid'. A law counts once. -/
mutual
def uptoBulk {H : Type} : DataW H → Nat
  | .lit (.string bytes) => bytes.length + 1
  | .lit _ => 1
  | .nil => 1
  | .ptr d => uptoBulk d + 1
  | .slice elems spare => uptoBulkAll elems + uptoBulkAll spare + 1
  | .agg parts => uptoBulkAll parts + 1
  | .iface _ d => uptoBulk d + 1
  | .map entries => uptoBulkEntries entries + 1
  | .held _ => 1
def uptoBulkAll {H : Type} : List (DataW H) → Nat
  | [] => 0
  | d :: r => uptoBulk d + uptoBulkAll r
def uptoBulkEntries {H : Type} : List (Lit × DataW H) → Nat
  | [] => 0
  | x :: r => uptoBulkEntry x + uptoBulkEntries r
def uptoBulkEntry {H : Type} : Lit × DataW H → Nat
  | (.string bytes, d) => bytes.length + uptoBulk d + 1
  | (_, d) => uptoBulk d + 1
 end
def uptoSmall : (H : Type) → List (DataW H) → Bool := fun _ ds => decide (uptoBulkAll ds ≤ 1048576)
def OpenSpec.upto (s : _root_.Go.ChangeSpec) : _root_.Go.OpenSpec := { _root_.Go.OpenSpec.ofChange s with cond := some uptoSmall }

/-- 'postriderlaw13.SignsFlags', WHERE WHAT IT READS IS OF BULK AT MOST 1048576: true; the input reads as it did. -/
def signsFlagsUptoRow : OpenClaim := { program := "ytlddkoblicnepaadoor", sum := "1bf02467a9a6212a6259e3ed3b15429dfbe64a6209b63b43d3ceabcb555a9c01", func := "postrider/postriderlaw13.SignsFlags", spec := "signsFlags", inPlace := ["internal/reflectlite.TypeOf"], unfollowed := true, recurses := true, named := ["postrider/signs.errArg", "postrider/signs.errAccepted", "postrider/signs.errSingle", "postrider/signs.errNum", "postrider/signs.errTimed", "postrider/signs.errPassed", "postrider/signs.errNamed", "postrider/signs.errTime"], apart := false, laid := [("postrider/signs.errArg", laid_postrider_signs_errArg), ("postrider/signs.errNum", laid_postrider_signs_errNum), ("postrider/signs.errAccepted", laid_postrider_signs_errAccepted), ("postrider/signs.errSingle", laid_postrider_signs_errSingle), ("postrider/signs.errTimed", laid_postrider_signs_errTimed), ("postrider/signs.errPassed", laid_postrider_signs_errPassed), ("postrider/signs.errNamed", laid_postrider_signs_errNamed), ("postrider/signs.errTime", laid_postrider_signs_errTime)], narrowed := true }
def SignsFlagsUptoSaid : Prop := signsFlagsUptoRow.holds Tryd.pinned (OpenSpec.upto signsFlagsSpec)

/-- 'postriderlaw13.SignsMarks', WHERE WHAT IT READS IS OF BULK AT MOST 1048576: true; the input reads as it did. -/
def signsMarksUptoRow : OpenClaim := { program := "ytlddkoblicnepaadoor", sum := "1bf02467a9a6212a6259e3ed3b15429dfbe64a6209b63b43d3ceabcb555a9c01", func := "postrider/postriderlaw13.SignsMarks", spec := "signsMarks", inPlace := ["internal/reflectlite.TypeOf"], unfollowed := true, recurses := true, named := ["postrider/signs.errArg", "postrider/signs.errAccepted", "postrider/signs.errSingle", "postrider/signs.errNum", "postrider/signs.errTimed", "postrider/signs.errPassed", "postrider/signs.errNamed", "postrider/signs.errTime"], apart := false, laid := [("postrider/signs.errArg", laid_postrider_signs_errArg), ("postrider/signs.errNum", laid_postrider_signs_errNum), ("postrider/signs.errAccepted", laid_postrider_signs_errAccepted), ("postrider/signs.errSingle", laid_postrider_signs_errSingle), ("postrider/signs.errTimed", laid_postrider_signs_errTimed), ("postrider/signs.errPassed", laid_postrider_signs_errPassed), ("postrider/signs.errNamed", laid_postrider_signs_errNamed), ("postrider/signs.errTime", laid_postrider_signs_errTime)], narrowed := true }
def SignsMarksUptoSaid : Prop := signsMarksUptoRow.holds Tryd.pinned (OpenSpec.upto signsMarksSpec)

/-- 'postriderlaw13.SignsBack', WHERE WHAT IT READS IS OF BULK AT MOST 1048576: true; the input reads as it did. -/
def signsBackUptoRow : OpenClaim := { program := "ytlddkoblicnepaadoor", sum := "1bf02467a9a6212a6259e3ed3b15429dfbe64a6209b63b43d3ceabcb555a9c01", func := "postrider/postriderlaw13.SignsBack", spec := "signsBack", inPlace := ["internal/reflectlite.TypeOf"], unfollowed := true, recurses := true, named := ["postrider/signs.errArg", "postrider/signs.errAccepted", "postrider/signs.errSingle", "postrider/signs.errNum", "postrider/signs.errTimed", "postrider/signs.errPassed", "postrider/signs.errNamed", "postrider/signs.errTime"], apart := false, laid := [("postrider/signs.errArg", laid_postrider_signs_errArg), ("postrider/signs.errNum", laid_postrider_signs_errNum), ("postrider/signs.errAccepted", laid_postrider_signs_errAccepted), ("postrider/signs.errSingle", laid_postrider_signs_errSingle), ("postrider/signs.errTimed", laid_postrider_signs_errTimed), ("postrider/signs.errPassed", laid_postrider_signs_errPassed), ("postrider/signs.errNamed", laid_postrider_signs_errNamed), ("postrider/signs.errTime", laid_postrider_signs_errTime)], narrowed := true }
def SignsBackUptoSaid : Prop := signsBackUptoRow.holds Tryd.pinned (OpenSpec.upto signsBackSpec)

/-- 'postriderlaw13.SignsTurns', WHERE WHAT IT READS IS OF BULK AT MOST 1048576: true; the input reads as it did. -/
def signsTurnsUptoRow : OpenClaim := { program := "ytlddkoblicnepaadoor", sum := "1bf02467a9a6212a6259e3ed3b15429dfbe64a6209b63b43d3ceabcb555a9c01", func := "postrider/postriderlaw13.SignsTurns", spec := "signsTurns", inPlace := ["internal/reflectlite.TypeOf"], unfollowed := true, recurses := true, named := ["postrider/signs.errArg", "postrider/signs.errAccepted", "postrider/signs.errSingle", "postrider/signs.errNum", "postrider/signs.errTimed", "postrider/signs.errPassed", "postrider/signs.errNamed", "postrider/signs.errTime"], apart := false, laid := [("postrider/signs.errArg", laid_postrider_signs_errArg), ("postrider/signs.errNum", laid_postrider_signs_errNum), ("postrider/signs.errAccepted", laid_postrider_signs_errAccepted), ("postrider/signs.errSingle", laid_postrider_signs_errSingle), ("postrider/signs.errTimed", laid_postrider_signs_errTimed), ("postrider/signs.errPassed", laid_postrider_signs_errPassed), ("postrider/signs.errNamed", laid_postrider_signs_errNamed), ("postrider/signs.errTime", laid_postrider_signs_errTime)], narrowed := true }
def SignsTurnsUptoSaid : Prop := signsTurnsUptoRow.holds Tryd.pinned (OpenSpec.upto signsTurnsSpec)

/-- 'postriderlaw13.SignsSame', WHERE WHAT IT READS IS OF BULK AT MOST 1048576: true; the input reads as it did. -/
def signsSameUptoRow : OpenClaim := { program := "ytlddkoblicnepaadoor", sum := "1bf02467a9a6212a6259e3ed3b15429dfbe64a6209b63b43d3ceabcb555a9c01", func := "postrider/postriderlaw13.SignsSame", spec := "signsSame", inPlace := ["internal/reflectlite.TypeOf"], unfollowed := true, recurses := true, named := ["postrider/signs.errArg", "postrider/signs.errAccepted", "postrider/signs.errSingle", "postrider/signs.errNum", "postrider/signs.errTimed", "postrider/signs.errPassed", "postrider/signs.errNamed", "postrider/signs.errTime"], apart := false, laid := [("postrider/signs.errArg", laid_postrider_signs_errArg), ("postrider/signs.errNum", laid_postrider_signs_errNum), ("postrider/signs.errAccepted", laid_postrider_signs_errAccepted), ("postrider/signs.errSingle", laid_postrider_signs_errSingle), ("postrider/signs.errTimed", laid_postrider_signs_errTimed), ("postrider/signs.errPassed", laid_postrider_signs_errPassed), ("postrider/signs.errNamed", laid_postrider_signs_errNamed), ("postrider/signs.errTime", laid_postrider_signs_errTime)], narrowed := true }
def SignsSameUptoSaid : Prop := signsSameUptoRow.holds Tryd.pinned (OpenSpec.upto signsSameSpec)

/-- 'postriderlaw13.SignsTimes', WHERE WHAT IT READS IS OF BULK AT MOST 1048576: true; the input reads as it did. -/
def signsTimesUptoRow : OpenClaim := { program := "ytlddkoblicnepaadoor", sum := "1bf02467a9a6212a6259e3ed3b15429dfbe64a6209b63b43d3ceabcb555a9c01", func := "postrider/postriderlaw13.SignsTimes", spec := "signsTimes", inPlace := ["internal/reflectlite.TypeOf"], unfollowed := true, recurses := true, named := ["postrider/signs.errArg", "postrider/signs.errAccepted", "postrider/signs.errSingle", "postrider/signs.errNum", "postrider/signs.errTimed", "postrider/signs.errPassed", "postrider/signs.errNamed", "postrider/signs.errTime"], apart := false, laid := [("postrider/signs.errArg", laid_postrider_signs_errArg), ("postrider/signs.errNum", laid_postrider_signs_errNum), ("postrider/signs.errAccepted", laid_postrider_signs_errAccepted), ("postrider/signs.errSingle", laid_postrider_signs_errSingle), ("postrider/signs.errTimed", laid_postrider_signs_errTimed), ("postrider/signs.errPassed", laid_postrider_signs_errPassed), ("postrider/signs.errNamed", laid_postrider_signs_errNamed), ("postrider/signs.errTime", laid_postrider_signs_errTime)], narrowed := true }
def SignsTimesUptoSaid : Prop := signsTimesUptoRow.holds Tryd.pinned (OpenSpec.upto signsTimesSpec)

end Rows
end Go.Proofs.YtlddkoblicnepaaDoor
