/-
  NARROWER THAN 'FOR EVERY INPUT', by the rows' own cells (each row's printed sentence says how): DiskPlays: laid · DiskApart: laid · DiskBytes: laid · DiskDown: laid · DiskArms: laid · DiskNew: laid.
  DERIVED. THE GIVEN ROWS OF THIS SEAT. 6 by the template 'for every input the law returns true; each argument reads behind the call as it read before'; 0 by the template 'total and deterministic' (their statements: YtpafpmefhfmndaaDoorTotals.lean).
  GIVEN WITH THE SEED: the statements are not yours to turn. If you find one false, say at which input.
  Laid BY PROGRAM, IN A SANDBOX (cutbox-rows.mjs): the forced cells as the released guide's own fill.sh prints them over the translation fa79d04cc9f7b767… (all of the seat's roots in one cut). By AI agents, Wed Nov 11 2026. No macro, syntax, notation, axiom, sorry.
-/
import Derived.Test.YtpafpmefhfmndaaDoorChecked
import GoSem.Claim
import GoSem.ClaimJoined
import GoSem.ClaimMapViews
import Derived.JoinedTies
import Derived.KernelRfl
namespace Go.Proofs.YtpafpmefhfmndaaDoor
/- THE CELL 'sum', in the pinned program and in every row, IS THE sha256 OF THE DUMP (.gsa) THAT YtpafpmefhfmndaaDoorProg.lean LOADS. Nothing in Lean hashes anything: it is a label: what it is worth is what the hold of that sum in a sandbox is worth. -/
noncomputable def Tryd.pinned : Pinned := { name := "ytpafpmefhfmndaadoor", sum := "fa79d04cc9f7b767a6d25c01dc7da0ded39b9df32a7f6ff0f5fab22d4dc34bae", checked := Tryd.checked }
namespace Rows
def none {H : Type} : Left H := { results := [], args := [] }

/- WHAT THE LISTED PACKAGE-LEVEL VARIABLES READ AS WHEN THE CALL BEGINS. Each datum BY PROGRAM (the guide's laid-datum.mjs) off the statement by which the dump's own 'gosem.cut.vars' lays the variable. In a bare row this is a premise. The card (YtpafpmefhfmndaaDoorCards.lean) ties it to the program's text. -/
def laid_errors_errorType {H : Type} : DataW H := .iface "internal/reflectlite.rtype" (.agg [.ptr (.lit (.string [101, 114, 114, 111, 114]))])
def laid_postrider_nums_errArg {H : Type} : DataW H := .iface "*errors.errorString" (.ptr (.agg [.lit (.string [110, 117, 109, 115, 58, 32, 110, 111, 32, 115, 117, 99, 104, 32, 119, 105, 100, 116, 104])]))
def laid_postrider_nums_errNum {H : Type} : DataW H := .iface "*errors.errorString" (.ptr (.agg [.lit (.string [110, 117, 109, 115, 58, 32, 110, 111, 32, 110, 117, 109, 98, 101, 114, 44, 32, 111, 114, 32, 110, 111, 110, 101, 32, 116, 104, 97, 116, 32, 116, 104, 101, 32, 119, 105, 100, 116, 104, 32, 104, 97, 115, 32, 114, 111, 111, 109, 32, 102, 111, 114])]))
def laid_postrider_nums_errShort {H : Type} : DataW H := .iface "*errors.errorString" (.ptr (.agg [.lit (.string [110, 117, 109, 115, 58, 32, 110, 111, 32, 115, 117, 99, 104, 32, 112, 108, 97, 99, 101, 44, 32, 111, 114, 32, 116, 111, 111, 32, 102, 101, 119, 32, 98, 121, 116, 101, 115, 32, 102, 114, 111, 109, 32, 116, 104, 101, 114, 101, 32, 111, 110])]))

/-- 'postriderlaw18.DiskPlays': WHATEVER THE INPUT: true; the input reads as it did. -/
def diskPlaysSpec : ChangeSpec := { name := "diskPlays", fn := fun _ => fun
  | [d1, d2] => { results := [.lit (.bool true)], args := [d1, d2] }
  | _ => none }
def diskPlaysRow : OpenClaim := { program := "ytpafpmefhfmndaadoor", sum := "fa79d04cc9f7b767a6d25c01dc7da0ded39b9df32a7f6ff0f5fab22d4dc34bae", func := "postrider/postriderlaw18.DiskPlays", spec := "diskPlays", inPlace := ["internal/reflectlite.ValueOf", "(internal/reflectlite.Value).Type", "(internal/reflectlite.Value).IsNil", "internal/reflectlite.TypeOf", "(internal/reflectlite.Value).Elem", "(internal/reflectlite.Value).Set"], unfollowed := true, recurses := true, named := ["errors.errorType", "postrider/nums.errShort", "postrider/nums.errArg", "postrider/nums.errNum"], apart := false, laid := [("errors.errorType", laid_errors_errorType), ("postrider/nums.errArg", laid_postrider_nums_errArg), ("postrider/nums.errNum", laid_postrider_nums_errNum), ("postrider/nums.errShort", laid_postrider_nums_errShort)] }
def DiskPlaysSaid : Prop := diskPlaysRow.holds Tryd.pinned (OpenSpec.ofChange diskPlaysSpec)

/-- ITS FALSE NEIGHBOUR: 'it returns false'. Refute it at one input. -/
def diskPlaysWrong : ChangeSpec := { name := "diskPlays", fn := fun _ => fun
  | [d1, d2] => { results := [.lit (.bool false)], args := [d1, d2] }
  | _ => none }
def DiskPlaysWrongFalsely : Prop := diskPlaysRow.holds Tryd.pinned (OpenSpec.ofChange diskPlaysWrong)

/-- 'postriderlaw18.DiskApart': WHATEVER THE INPUT: true; the input reads as it did. -/
def diskApartSpec : ChangeSpec := { name := "diskApart", fn := fun _ => fun
  | [d1, d2, d3, d4, d5] => { results := [.lit (.bool true)], args := [d1, d2, d3, d4, d5] }
  | _ => none }
def diskApartRow : OpenClaim := { program := "ytpafpmefhfmndaadoor", sum := "fa79d04cc9f7b767a6d25c01dc7da0ded39b9df32a7f6ff0f5fab22d4dc34bae", func := "postrider/postriderlaw18.DiskApart", spec := "diskApart", inPlace := ["internal/reflectlite.ValueOf", "(internal/reflectlite.Value).Type", "(internal/reflectlite.Value).IsNil", "internal/reflectlite.TypeOf", "(internal/reflectlite.Value).Elem", "(internal/reflectlite.Value).Set"], unfollowed := true, recurses := true, named := ["errors.errorType", "postrider/nums.errShort", "postrider/nums.errArg", "postrider/nums.errNum"], apart := false, laid := [("errors.errorType", laid_errors_errorType), ("postrider/nums.errArg", laid_postrider_nums_errArg), ("postrider/nums.errNum", laid_postrider_nums_errNum), ("postrider/nums.errShort", laid_postrider_nums_errShort)] }
def DiskApartSaid : Prop := diskApartRow.holds Tryd.pinned (OpenSpec.ofChange diskApartSpec)

/-- ITS FALSE NEIGHBOUR: 'it returns false'. Refute it at one input. -/
def diskApartWrong : ChangeSpec := { name := "diskApart", fn := fun _ => fun
  | [d1, d2, d3, d4, d5] => { results := [.lit (.bool false)], args := [d1, d2, d3, d4, d5] }
  | _ => none }
def DiskApartWrongFalsely : Prop := diskApartRow.holds Tryd.pinned (OpenSpec.ofChange diskApartWrong)

/-- 'postriderlaw18.DiskBytes': WHATEVER THE INPUT: true; the input reads as it did. -/
def diskBytesSpec : ChangeSpec := { name := "diskBytes", fn := fun _ => fun
  | [d1, d2, d3] => { results := [.lit (.bool true)], args := [d1, d2, d3] }
  | _ => none }
def diskBytesRow : OpenClaim := { program := "ytpafpmefhfmndaadoor", sum := "fa79d04cc9f7b767a6d25c01dc7da0ded39b9df32a7f6ff0f5fab22d4dc34bae", func := "postrider/postriderlaw18.DiskBytes", spec := "diskBytes", inPlace := ["internal/reflectlite.ValueOf", "(internal/reflectlite.Value).Type", "(internal/reflectlite.Value).IsNil", "internal/reflectlite.TypeOf", "(internal/reflectlite.Value).Elem", "(internal/reflectlite.Value).Set"], unfollowed := true, recurses := true, named := ["errors.errorType", "postrider/nums.errShort", "postrider/nums.errArg", "postrider/nums.errNum"], apart := false, laid := [("errors.errorType", laid_errors_errorType), ("postrider/nums.errArg", laid_postrider_nums_errArg), ("postrider/nums.errNum", laid_postrider_nums_errNum), ("postrider/nums.errShort", laid_postrider_nums_errShort)] }
def DiskBytesSaid : Prop := diskBytesRow.holds Tryd.pinned (OpenSpec.ofChange diskBytesSpec)

/-- ITS FALSE NEIGHBOUR: 'it returns false'. Refute it at one input. -/
def diskBytesWrong : ChangeSpec := { name := "diskBytes", fn := fun _ => fun
  | [d1, d2, d3] => { results := [.lit (.bool false)], args := [d1, d2, d3] }
  | _ => none }
def DiskBytesWrongFalsely : Prop := diskBytesRow.holds Tryd.pinned (OpenSpec.ofChange diskBytesWrong)

/-- 'postriderlaw18.DiskDown': WHATEVER THE INPUT: true; the input reads as it did. -/
def diskDownSpec : ChangeSpec := { name := "diskDown", fn := fun _ => fun
  | [d1, d2, d3, d4] => { results := [.lit (.bool true)], args := [d1, d2, d3, d4] }
  | _ => none }
def diskDownRow : OpenClaim := { program := "ytpafpmefhfmndaadoor", sum := "fa79d04cc9f7b767a6d25c01dc7da0ded39b9df32a7f6ff0f5fab22d4dc34bae", func := "postrider/postriderlaw18.DiskDown", spec := "diskDown", inPlace := ["internal/reflectlite.ValueOf", "(internal/reflectlite.Value).Type", "(internal/reflectlite.Value).IsNil", "internal/reflectlite.TypeOf", "(internal/reflectlite.Value).Elem", "(internal/reflectlite.Value).Set"], unfollowed := true, recurses := true, named := ["errors.errorType", "postrider/nums.errShort", "postrider/nums.errArg", "postrider/nums.errNum"], apart := false, laid := [("errors.errorType", laid_errors_errorType), ("postrider/nums.errArg", laid_postrider_nums_errArg), ("postrider/nums.errNum", laid_postrider_nums_errNum), ("postrider/nums.errShort", laid_postrider_nums_errShort)] }
def DiskDownSaid : Prop := diskDownRow.holds Tryd.pinned (OpenSpec.ofChange diskDownSpec)

/-- ITS FALSE NEIGHBOUR: 'it returns false'. Refute it at one input. -/
def diskDownWrong : ChangeSpec := { name := "diskDown", fn := fun _ => fun
  | [d1, d2, d3, d4] => { results := [.lit (.bool false)], args := [d1, d2, d3, d4] }
  | _ => none }
def DiskDownWrongFalsely : Prop := diskDownRow.holds Tryd.pinned (OpenSpec.ofChange diskDownWrong)

/-- 'postriderlaw18.DiskArms': WHATEVER THE INPUT: true; the input reads as it did. -/
def diskArmsSpec : ChangeSpec := { name := "diskArms", fn := fun _ => fun
  | [d1, d2, d3] => { results := [.lit (.bool true)], args := [d1, d2, d3] }
  | _ => none }
def diskArmsRow : OpenClaim := { program := "ytpafpmefhfmndaadoor", sum := "fa79d04cc9f7b767a6d25c01dc7da0ded39b9df32a7f6ff0f5fab22d4dc34bae", func := "postrider/postriderlaw18.DiskArms", spec := "diskArms", inPlace := ["internal/reflectlite.ValueOf", "(internal/reflectlite.Value).Type", "(internal/reflectlite.Value).IsNil", "internal/reflectlite.TypeOf", "(internal/reflectlite.Value).Elem", "(internal/reflectlite.Value).Set"], unfollowed := true, recurses := true, named := ["errors.errorType", "postrider/nums.errShort", "postrider/nums.errArg", "postrider/nums.errNum"], apart := false, laid := [("errors.errorType", laid_errors_errorType), ("postrider/nums.errArg", laid_postrider_nums_errArg), ("postrider/nums.errNum", laid_postrider_nums_errNum), ("postrider/nums.errShort", laid_postrider_nums_errShort)] }
def DiskArmsSaid : Prop := diskArmsRow.holds Tryd.pinned (OpenSpec.ofChange diskArmsSpec)

/-- ITS FALSE NEIGHBOUR: 'it returns false'. Refute it at one input. -/
def diskArmsWrong : ChangeSpec := { name := "diskArms", fn := fun _ => fun
  | [d1, d2, d3] => { results := [.lit (.bool false)], args := [d1, d2, d3] }
  | _ => none }
def DiskArmsWrongFalsely : Prop := diskArmsRow.holds Tryd.pinned (OpenSpec.ofChange diskArmsWrong)

/-- 'postriderlaw18.DiskNew': WHATEVER THE INPUT: true; the input reads as it did. -/
def diskNewSpec : ChangeSpec := { name := "diskNew", fn := fun _ => fun
  | [d1, d2, d3] => { results := [.lit (.bool true)], args := [d1, d2, d3] }
  | _ => none }
def diskNewRow : OpenClaim := { program := "ytpafpmefhfmndaadoor", sum := "fa79d04cc9f7b767a6d25c01dc7da0ded39b9df32a7f6ff0f5fab22d4dc34bae", func := "postrider/postriderlaw18.DiskNew", spec := "diskNew", inPlace := ["internal/reflectlite.ValueOf", "(internal/reflectlite.Value).Type", "(internal/reflectlite.Value).IsNil", "internal/reflectlite.TypeOf", "(internal/reflectlite.Value).Elem", "(internal/reflectlite.Value).Set"], unfollowed := true, recurses := true, named := ["errors.errorType", "postrider/nums.errShort", "postrider/nums.errArg", "postrider/nums.errNum"], apart := false, laid := [("errors.errorType", laid_errors_errorType), ("postrider/nums.errArg", laid_postrider_nums_errArg), ("postrider/nums.errNum", laid_postrider_nums_errNum), ("postrider/nums.errShort", laid_postrider_nums_errShort)] }
def DiskNewSaid : Prop := diskNewRow.holds Tryd.pinned (OpenSpec.ofChange diskNewSpec)

/-- ITS FALSE NEIGHBOUR: 'it returns false'. Refute it at one input. -/
def diskNewWrong : ChangeSpec := { name := "diskNew", fn := fun _ => fun
  | [d1, d2, d3] => { results := [.lit (.bool false)], args := [d1, d2, d3] }
  | _ => none }
def DiskNewWrongFalsely : Prop := diskNewRow.holds Tryd.pinned (OpenSpec.ofChange diskNewWrong)

/- THE SECOND FORM. 'bulk': how many values and letters a reading holds, each counted each time it is reached (what is shared counts as often as it is met; a slice's spare places count too). A statement '..UptoSaid' is the law's where the arguments, and the package variables that the reading takes, are together of bulk at most 1048576: NARROWER than '..Said'. Prove '..Said' where nothing that the law and all that it calls make is longer than what came in: it says more and counts as full. Else prove '..UptoSaid'. A law counts once. -/
mutual
def uptoBulk {H : Type} : DataW H → Nat
  | .lit (.string bytes) => bytes.length + 1
  | .lit _ => 1
  | .nil => 1
  | .ptr d => uptoBulk d + 1
  | .slice elems spare => uptoBulkAll elems + uptoBulkAll spare + 1
  | .agg parts => uptoBulkAll parts + 1
  | .iface _ d => uptoBulk d + 1
  | .map entries => uptoBulkEntries entries + 1
  | .held _ => 1
def uptoBulkAll {H : Type} : List (DataW H) → Nat
  | [] => 0
  | d :: r => uptoBulk d + uptoBulkAll r
def uptoBulkEntries {H : Type} : List (Lit × DataW H) → Nat
  | [] => 0
  | x :: r => uptoBulkEntry x + uptoBulkEntries r
def uptoBulkEntry {H : Type} : Lit × DataW H → Nat
  | (.string bytes, d) => bytes.length + uptoBulk d + 1
  | (_, d) => uptoBulk d + 1
 end
def uptoSmall : (H : Type) → List (DataW H) → Bool := fun _ ds => decide (uptoBulkAll ds ≤ 1048576)
def OpenSpec.upto (s : _root_.Go.ChangeSpec) : _root_.Go.OpenSpec := { _root_.Go.OpenSpec.ofChange s with cond := some uptoSmall }

/-- 'postriderlaw18.DiskPlays', WHERE WHAT IT READS IS OF BULK AT MOST 1048576: true; the input reads as it did. -/
def diskPlaysUptoRow : OpenClaim := { program := "ytpafpmefhfmndaadoor", sum := "fa79d04cc9f7b767a6d25c01dc7da0ded39b9df32a7f6ff0f5fab22d4dc34bae", func := "postrider/postriderlaw18.DiskPlays", spec := "diskPlays", inPlace := ["internal/reflectlite.ValueOf", "(internal/reflectlite.Value).Type", "(internal/reflectlite.Value).IsNil", "internal/reflectlite.TypeOf", "(internal/reflectlite.Value).Elem", "(internal/reflectlite.Value).Set"], unfollowed := true, recurses := true, named := ["errors.errorType", "postrider/nums.errShort", "postrider/nums.errArg", "postrider/nums.errNum"], apart := false, laid := [("errors.errorType", laid_errors_errorType), ("postrider/nums.errArg", laid_postrider_nums_errArg), ("postrider/nums.errNum", laid_postrider_nums_errNum), ("postrider/nums.errShort", laid_postrider_nums_errShort)], narrowed := true }
def DiskPlaysUptoSaid : Prop := diskPlaysUptoRow.holds Tryd.pinned (OpenSpec.upto diskPlaysSpec)

/-- 'postriderlaw18.DiskApart', WHERE WHAT IT READS IS OF BULK AT MOST 1048576: true; the input reads as it did. -/
def diskApartUptoRow : OpenClaim := { program := "ytpafpmefhfmndaadoor", sum := "fa79d04cc9f7b767a6d25c01dc7da0ded39b9df32a7f6ff0f5fab22d4dc34bae", func := "postrider/postriderlaw18.DiskApart", spec := "diskApart", inPlace := ["internal/reflectlite.ValueOf", "(internal/reflectlite.Value).Type", "(internal/reflectlite.Value).IsNil", "internal/reflectlite.TypeOf", "(internal/reflectlite.Value).Elem", "(internal/reflectlite.Value).Set"], unfollowed := true, recurses := true, named := ["errors.errorType", "postrider/nums.errShort", "postrider/nums.errArg", "postrider/nums.errNum"], apart := false, laid := [("errors.errorType", laid_errors_errorType), ("postrider/nums.errArg", laid_postrider_nums_errArg), ("postrider/nums.errNum", laid_postrider_nums_errNum), ("postrider/nums.errShort", laid_postrider_nums_errShort)], narrowed := true }
def DiskApartUptoSaid : Prop := diskApartUptoRow.holds Tryd.pinned (OpenSpec.upto diskApartSpec)

/-- 'postriderlaw18.DiskBytes', WHERE WHAT IT READS IS OF BULK AT MOST 1048576: true; the input reads as it did. -/
def diskBytesUptoRow : OpenClaim := { program := "ytpafpmefhfmndaadoor", sum := "fa79d04cc9f7b767a6d25c01dc7da0ded39b9df32a7f6ff0f5fab22d4dc34bae", func := "postrider/postriderlaw18.DiskBytes", spec := "diskBytes", inPlace := ["internal/reflectlite.ValueOf", "(internal/reflectlite.Value).Type", "(internal/reflectlite.Value).IsNil", "internal/reflectlite.TypeOf", "(internal/reflectlite.Value).Elem", "(internal/reflectlite.Value).Set"], unfollowed := true, recurses := true, named := ["errors.errorType", "postrider/nums.errShort", "postrider/nums.errArg", "postrider/nums.errNum"], apart := false, laid := [("errors.errorType", laid_errors_errorType), ("postrider/nums.errArg", laid_postrider_nums_errArg), ("postrider/nums.errNum", laid_postrider_nums_errNum), ("postrider/nums.errShort", laid_postrider_nums_errShort)], narrowed := true }
def DiskBytesUptoSaid : Prop := diskBytesUptoRow.holds Tryd.pinned (OpenSpec.upto diskBytesSpec)

/-- 'postriderlaw18.DiskDown', WHERE WHAT IT READS IS OF BULK AT MOST 1048576: true; the input reads as it did. -/
def diskDownUptoRow : OpenClaim := { program := "ytpafpmefhfmndaadoor", sum := "fa79d04cc9f7b767a6d25c01dc7da0ded39b9df32a7f6ff0f5fab22d4dc34bae", func := "postrider/postriderlaw18.DiskDown", spec := "diskDown", inPlace := ["internal/reflectlite.ValueOf", "(internal/reflectlite.Value).Type", "(internal/reflectlite.Value).IsNil", "internal/reflectlite.TypeOf", "(internal/reflectlite.Value).Elem", "(internal/reflectlite.Value).Set"], unfollowed := true, recurses := true, named := ["errors.errorType", "postrider/nums.errShort", "postrider/nums.errArg", "postrider/nums.errNum"], apart := false, laid := [("errors.errorType", laid_errors_errorType), ("postrider/nums.errArg", laid_postrider_nums_errArg), ("postrider/nums.errNum", laid_postrider_nums_errNum), ("postrider/nums.errShort", laid_postrider_nums_errShort)], narrowed := true }
def DiskDownUptoSaid : Prop := diskDownUptoRow.holds Tryd.pinned (OpenSpec.upto diskDownSpec)

/-- 'postriderlaw18.DiskArms', WHERE WHAT IT READS IS OF BULK AT MOST 1048576: true; the input reads as it did. -/
def diskArmsUptoRow : OpenClaim := { program := "ytpafpmefhfmndaadoor", sum := "fa79d04cc9f7b767a6d25c01dc7da0ded39b9df32a7f6ff0f5fab22d4dc34bae", func := "postrider/postriderlaw18.DiskArms", spec := "diskArms", inPlace := ["internal/reflectlite.ValueOf", "(internal/reflectlite.Value).Type", "(internal/reflectlite.Value).IsNil", "internal/reflectlite.TypeOf", "(internal/reflectlite.Value).Elem", "(internal/reflectlite.Value).Set"], unfollowed := true, recurses := true, named := ["errors.errorType", "postrider/nums.errShort", "postrider/nums.errArg", "postrider/nums.errNum"], apart := false, laid := [("errors.errorType", laid_errors_errorType), ("postrider/nums.errArg", laid_postrider_nums_errArg), ("postrider/nums.errNum", laid_postrider_nums_errNum), ("postrider/nums.errShort", laid_postrider_nums_errShort)], narrowed := true }
def DiskArmsUptoSaid : Prop := diskArmsUptoRow.holds Tryd.pinned (OpenSpec.upto diskArmsSpec)

/-- 'postriderlaw18.DiskNew', WHERE WHAT IT READS IS OF BULK AT MOST 1048576: true; the input reads as it did. -/
def diskNewUptoRow : OpenClaim := { program := "ytpafpmefhfmndaadoor", sum := "fa79d04cc9f7b767a6d25c01dc7da0ded39b9df32a7f6ff0f5fab22d4dc34bae", func := "postrider/postriderlaw18.DiskNew", spec := "diskNew", inPlace := ["internal/reflectlite.ValueOf", "(internal/reflectlite.Value).Type", "(internal/reflectlite.Value).IsNil", "internal/reflectlite.TypeOf", "(internal/reflectlite.Value).Elem", "(internal/reflectlite.Value).Set"], unfollowed := true, recurses := true, named := ["errors.errorType", "postrider/nums.errShort", "postrider/nums.errArg", "postrider/nums.errNum"], apart := false, laid := [("errors.errorType", laid_errors_errorType), ("postrider/nums.errArg", laid_postrider_nums_errArg), ("postrider/nums.errNum", laid_postrider_nums_errNum), ("postrider/nums.errShort", laid_postrider_nums_errShort)], narrowed := true }
def DiskNewUptoSaid : Prop := diskNewUptoRow.holds Tryd.pinned (OpenSpec.upto diskNewSpec)

end Rows
end Go.Proofs.YtpafpmefhfmndaaDoor
