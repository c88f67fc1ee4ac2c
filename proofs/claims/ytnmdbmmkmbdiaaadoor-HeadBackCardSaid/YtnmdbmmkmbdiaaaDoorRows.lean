/-
  NARROWER THAN 'FOR EVERY INPUT', by the rows' own cells (each row's printed sentence says how): HeadCodes: laid · HeadBack: laid · HeadApart: laid · HeadSizes: laid · HeadOrder: laid · HeadShort: laid · HeadReads: laid.
  DERIVED. THE GIVEN ROWS OF THIS SEAT. 7 by the template 'for every input the law returns true; each argument reads behind the call as it read before'; 0 by the template 'total and deterministic' (their statements: YtnmdbmmkmbdiaaaDoorTotals.lean).
  GIVEN WITH THE SEED: the statements are not yours to turn. If you find one false, say at which input.
  Laid BY PROGRAM, IN A SANDBOX (cutbox-rows.mjs): the forced cells as the released guide's own fill.sh prints them over the translation 30fb21216f42cd6a… (all of the seat's roots in one cut). By AI agents, Wed Nov 11 2026. No macro, syntax, notation, axiom, sorry.
-/
import Derived.Test.YtnmdbmmkmbdiaaaDoorChecked
import GoSem.Claim
import GoSem.ClaimJoined
import GoSem.ClaimMapViews
import Derived.JoinedTies
import Derived.KernelRfl
namespace Go.Proofs.YtnmdbmmkmbdiaaaDoor
/- THE CELL 'sum', in the pinned program and in every row, IS THE sha256 OF THE DUMP (.gsa) THAT YtnmdbmmkmbdiaaaDoorProg.lean LOADS. Nothing in Lean hashes anything: it is a label: what it is worth is what the hold of that sum in a sandbox is worth. -/
noncomputable def Tryd.pinned : Pinned := { name := "ytnmdbmmkmbdiaaadoor", sum := "30fb21216f42cd6af43d51503224df96fadae1da2efee24287bd9f615a57f78f", checked := Tryd.checked }
namespace Rows
def none {H : Type} : Left H := { results := [], args := [] }

/- WHAT THE LISTED PACKAGE-LEVEL VARIABLES READ AS WHEN THE CALL BEGINS. Each datum BY PROGRAM (the guide's laid-datum.mjs) off the statement by which the dump's own 'gosem.cut.vars' lays the variable. In a bare row this is a premise. The card (YtnmdbmmkmbdiaaaDoorCards.lean) ties it to the program's text. -/
def laid_postrider_nums_errArg {H : Type} : DataW H := .iface "*errors.errorString" (.ptr (.agg [.lit (.string [110, 117, 109, 115, 58, 32, 110, 111, 32, 115, 117, 99, 104, 32, 119, 105, 100, 116, 104])]))
def laid_postrider_nums_errNum {H : Type} : DataW H := .iface "*errors.errorString" (.ptr (.agg [.lit (.string [110, 117, 109, 115, 58, 32, 110, 111, 32, 110, 117, 109, 98, 101, 114, 44, 32, 111, 114, 32, 110, 111, 110, 101, 32, 116, 104, 97, 116, 32, 116, 104, 101, 32, 119, 105, 100, 116, 104, 32, 104, 97, 115, 32, 114, 111, 111, 109, 32, 102, 111, 114])]))
def laid_postrider_nums_errShort {H : Type} : DataW H := .iface "*errors.errorString" (.ptr (.agg [.lit (.string [110, 117, 109, 115, 58, 32, 110, 111, 32, 115, 117, 99, 104, 32, 112, 108, 97, 99, 101, 44, 32, 111, 114, 32, 116, 111, 111, 32, 102, 101, 119, 32, 98, 121, 116, 101, 115, 32, 102, 114, 111, 109, 32, 116, 104, 101, 114, 101, 32, 111, 110])]))
def laid_postrider_head_errArg {H : Type} : DataW H := .iface "*errors.errorString" (.ptr (.agg [.lit (.string [104, 101, 97, 100, 58, 32, 110, 111, 32, 115, 117, 99, 104, 32, 109, 97, 106, 111, 114])]))
def laid_postrider_head_errNum {H : Type} : DataW H := .iface "*errors.errorString" (.ptr (.agg [.lit (.string [104, 101, 97, 100, 58, 32, 116, 104, 101, 32, 97, 114, 103, 117, 109, 101, 110, 116, 32, 105, 115, 32, 110, 111, 32, 110, 117, 109, 98, 101, 114])]))
def laid_postrider_head_errShort {H : Type} : DataW H := .iface "*errors.errorString" (.ptr (.agg [.lit (.string [104, 101, 97, 100, 58, 32, 110, 111, 32, 115, 117, 99, 104, 32, 112, 108, 97, 99, 101, 44, 32, 111, 114, 32, 116, 111, 111, 32, 102, 101, 119, 32, 98, 121, 116, 101, 115, 32, 102, 114, 111, 109, 32, 116, 104, 101, 114, 101, 32, 111, 110])]))
def laid_postrider_head_errForm {H : Type} : DataW H := .iface "*errors.errorString" (.ptr (.agg [.lit (.string [104, 101, 97, 100, 58, 32, 110, 111, 32, 104, 101, 97, 100, 32, 98, 101, 103, 105, 110, 115, 32, 115, 111, 44, 32, 111, 114, 32, 97, 32, 115, 104, 111, 114, 116, 101, 114, 32, 111, 110, 101, 32, 116, 101, 108, 108, 115, 32, 116, 104, 101, 32, 115, 97, 109, 101])]))
def laid_postrider_head_wides {H : Type} : DataW H := .agg [.agg [.lit (.int .i64 24), .lit (.int .i64 1)], .agg [.lit (.int .i64 25), .lit (.int .i64 2)], .agg [.lit (.int .i64 26), .lit (.int .i64 4)], .agg [.lit (.int .i64 27), .lit (.int .i64 8)]]

/-- 'postriderlaw03.HeadCodes': WHATEVER THE INPUT: true; the input reads as it did. -/
def headCodesSpec : ChangeSpec := { name := "headCodes", fn := fun _ => fun
  | [d1, d2, d3, d4] => { results := [.lit (.bool true)], args := [d1, d2, d3, d4] }
  | _ => none }
def headCodesRow : OpenClaim := { program := "ytnmdbmmkmbdiaaadoor", sum := "30fb21216f42cd6af43d51503224df96fadae1da2efee24287bd9f615a57f78f", func := "postrider/postriderlaw03.HeadCodes", spec := "headCodes", inPlace := ["internal/reflectlite.TypeOf"], unfollowed := true, recurses := true, named := ["postrider/head.errArg", "postrider/head.errNum", "postrider/head.wides", "postrider/nums.errArg", "postrider/nums.errNum", "postrider/head.errShort", "postrider/head.errForm", "postrider/nums.errShort"], apart := false, laid := [("postrider/nums.errArg", laid_postrider_nums_errArg), ("postrider/nums.errNum", laid_postrider_nums_errNum), ("postrider/nums.errShort", laid_postrider_nums_errShort), ("postrider/head.errArg", laid_postrider_head_errArg), ("postrider/head.errNum", laid_postrider_head_errNum), ("postrider/head.errShort", laid_postrider_head_errShort), ("postrider/head.errForm", laid_postrider_head_errForm), ("postrider/head.wides", laid_postrider_head_wides)] }
def HeadCodesSaid : Prop := headCodesRow.holds Tryd.pinned (OpenSpec.ofChange headCodesSpec)

/-- ITS FALSE NEIGHBOUR: 'it returns false'. Refute it at one input. -/
def headCodesWrong : ChangeSpec := { name := "headCodes", fn := fun _ => fun
  | [d1, d2, d3, d4] => { results := [.lit (.bool false)], args := [d1, d2, d3, d4] }
  | _ => none }
def HeadCodesWrongFalsely : Prop := headCodesRow.holds Tryd.pinned (OpenSpec.ofChange headCodesWrong)

/-- 'postriderlaw03.HeadBack': WHATEVER THE INPUT: true; the input reads as it did. -/
def headBackSpec : ChangeSpec := { name := "headBack", fn := fun _ => fun
  | [d1, d2, d3, d4] => { results := [.lit (.bool true)], args := [d1, d2, d3, d4] }
  | _ => none }
def headBackRow : OpenClaim := { program := "ytnmdbmmkmbdiaaadoor", sum := "30fb21216f42cd6af43d51503224df96fadae1da2efee24287bd9f615a57f78f", func := "postrider/postriderlaw03.HeadBack", spec := "headBack", inPlace := ["internal/reflectlite.TypeOf"], unfollowed := true, recurses := true, named := ["postrider/head.errArg", "postrider/head.errNum", "postrider/head.wides", "postrider/nums.errArg", "postrider/nums.errNum", "postrider/head.errShort", "postrider/head.errForm", "postrider/nums.errShort"], apart := false, laid := [("postrider/nums.errArg", laid_postrider_nums_errArg), ("postrider/nums.errNum", laid_postrider_nums_errNum), ("postrider/nums.errShort", laid_postrider_nums_errShort), ("postrider/head.errArg", laid_postrider_head_errArg), ("postrider/head.errNum", laid_postrider_head_errNum), ("postrider/head.errShort", laid_postrider_head_errShort), ("postrider/head.errForm", laid_postrider_head_errForm), ("postrider/head.wides", laid_postrider_head_wides)] }
def HeadBackSaid : Prop := headBackRow.holds Tryd.pinned (OpenSpec.ofChange headBackSpec)

/-- ITS FALSE NEIGHBOUR: 'it returns false'. Refute it at one input. -/
def headBackWrong : ChangeSpec := { name := "headBack", fn := fun _ => fun
  | [d1, d2, d3, d4] => { results := [.lit (.bool false)], args := [d1, d2, d3, d4] }
  | _ => none }
def HeadBackWrongFalsely : Prop := headBackRow.holds Tryd.pinned (OpenSpec.ofChange headBackWrong)

/-- 'postriderlaw03.HeadApart': WHATEVER THE INPUT: true; the input reads as it did. -/
def headApartSpec : ChangeSpec := { name := "headApart", fn := fun _ => fun
  | [d1, d2, d3, d4] => { results := [.lit (.bool true)], args := [d1, d2, d3, d4] }
  | _ => none }
def headApartRow : OpenClaim := { program := "ytnmdbmmkmbdiaaadoor", sum := "30fb21216f42cd6af43d51503224df96fadae1da2efee24287bd9f615a57f78f", func := "postrider/postriderlaw03.HeadApart", spec := "headApart", inPlace := ["internal/reflectlite.TypeOf"], unfollowed := true, recurses := true, named := ["postrider/head.errArg", "postrider/head.errNum", "postrider/head.wides", "postrider/nums.errArg", "postrider/nums.errNum", "postrider/head.errShort", "postrider/head.errForm", "postrider/nums.errShort"], apart := false, laid := [("postrider/nums.errArg", laid_postrider_nums_errArg), ("postrider/nums.errNum", laid_postrider_nums_errNum), ("postrider/nums.errShort", laid_postrider_nums_errShort), ("postrider/head.errArg", laid_postrider_head_errArg), ("postrider/head.errNum", laid_postrider_head_errNum), ("postrider/head.errShort", laid_postrider_head_errShort), ("postrider/head.errForm", laid_postrider_head_errForm), ("postrider/head.wides", laid_postrider_head_wides)] }
def HeadApartSaid : Prop := headApartRow.holds Tryd.pinned (OpenSpec.ofChange headApartSpec)

/-- ITS FALSE NEIGHBOUR: 'it returns false'. Refute it at one input. -/
def headApartWrong : ChangeSpec := { name := "headApart", fn := fun _ => fun
  | [d1, d2, d3, d4] => { results := [.lit (.bool false)], args := [d1, d2, d3, d4] }
  | _ => none }
def HeadApartWrongFalsely : Prop := headApartRow.holds Tryd.pinned (OpenSpec.ofChange headApartWrong)

/-- 'postriderlaw03.HeadSizes': WHATEVER THE INPUT: true; the input reads as it did. -/
def headSizesSpec : ChangeSpec := { name := "headSizes", fn := fun _ => fun
  | [d1, d2, d3] => { results := [.lit (.bool true)], args := [d1, d2, d3] }
  | _ => none }
def headSizesRow : OpenClaim := { program := "ytnmdbmmkmbdiaaadoor", sum := "30fb21216f42cd6af43d51503224df96fadae1da2efee24287bd9f615a57f78f", func := "postrider/postriderlaw03.HeadSizes", spec := "headSizes", inPlace := ["internal/reflectlite.TypeOf"], unfollowed := true, recurses := true, named := ["postrider/head.errArg", "postrider/head.errNum", "postrider/head.wides", "postrider/nums.errArg", "postrider/nums.errNum", "postrider/head.errShort", "postrider/head.errForm", "postrider/nums.errShort"], apart := false, laid := [("postrider/nums.errArg", laid_postrider_nums_errArg), ("postrider/nums.errNum", laid_postrider_nums_errNum), ("postrider/nums.errShort", laid_postrider_nums_errShort), ("postrider/head.errArg", laid_postrider_head_errArg), ("postrider/head.errNum", laid_postrider_head_errNum), ("postrider/head.errShort", laid_postrider_head_errShort), ("postrider/head.errForm", laid_postrider_head_errForm), ("postrider/head.wides", laid_postrider_head_wides)] }
def HeadSizesSaid : Prop := headSizesRow.holds Tryd.pinned (OpenSpec.ofChange headSizesSpec)

/-- ITS FALSE NEIGHBOUR: 'it returns false'. Refute it at one input. -/
def headSizesWrong : ChangeSpec := { name := "headSizes", fn := fun _ => fun
  | [d1, d2, d3] => { results := [.lit (.bool false)], args := [d1, d2, d3] }
  | _ => none }
def HeadSizesWrongFalsely : Prop := headSizesRow.holds Tryd.pinned (OpenSpec.ofChange headSizesWrong)

/-- 'postriderlaw03.HeadOrder': WHATEVER THE INPUT: true; the input reads as it did. -/
def headOrderSpec : ChangeSpec := { name := "headOrder", fn := fun _ => fun
  | [d1, d2, d3] => { results := [.lit (.bool true)], args := [d1, d2, d3] }
  | _ => none }
def headOrderRow : OpenClaim := { program := "ytnmdbmmkmbdiaaadoor", sum := "30fb21216f42cd6af43d51503224df96fadae1da2efee24287bd9f615a57f78f", func := "postrider/postriderlaw03.HeadOrder", spec := "headOrder", inPlace := ["internal/reflectlite.TypeOf"], unfollowed := true, recurses := true, named := ["postrider/head.errArg", "postrider/head.errNum", "postrider/head.wides", "postrider/nums.errArg", "postrider/nums.errNum", "postrider/head.errShort", "postrider/head.errForm", "postrider/nums.errShort"], apart := false, laid := [("postrider/nums.errArg", laid_postrider_nums_errArg), ("postrider/nums.errNum", laid_postrider_nums_errNum), ("postrider/nums.errShort", laid_postrider_nums_errShort), ("postrider/head.errArg", laid_postrider_head_errArg), ("postrider/head.errNum", laid_postrider_head_errNum), ("postrider/head.errShort", laid_postrider_head_errShort), ("postrider/head.errForm", laid_postrider_head_errForm), ("postrider/head.wides", laid_postrider_head_wides)] }
def HeadOrderSaid : Prop := headOrderRow.holds Tryd.pinned (OpenSpec.ofChange headOrderSpec)

/-- ITS FALSE NEIGHBOUR: 'it returns false'. Refute it at one input. -/
def headOrderWrong : ChangeSpec := { name := "headOrder", fn := fun _ => fun
  | [d1, d2, d3] => { results := [.lit (.bool false)], args := [d1, d2, d3] }
  | _ => none }
def HeadOrderWrongFalsely : Prop := headOrderRow.holds Tryd.pinned (OpenSpec.ofChange headOrderWrong)

/-- 'postriderlaw03.HeadShort': WHATEVER THE INPUT: true; the input reads as it did. -/
def headShortSpec : ChangeSpec := { name := "headShort", fn := fun _ => fun
  | [d1, d2, d3] => { results := [.lit (.bool true)], args := [d1, d2, d3] }
  | _ => none }
def headShortRow : OpenClaim := { program := "ytnmdbmmkmbdiaaadoor", sum := "30fb21216f42cd6af43d51503224df96fadae1da2efee24287bd9f615a57f78f", func := "postrider/postriderlaw03.HeadShort", spec := "headShort", inPlace := ["internal/reflectlite.TypeOf"], unfollowed := true, recurses := true, named := ["postrider/head.errArg", "postrider/head.errNum", "postrider/head.wides", "postrider/nums.errArg", "postrider/nums.errNum", "postrider/head.errShort", "postrider/head.errForm", "postrider/nums.errShort"], apart := false, laid := [("postrider/nums.errArg", laid_postrider_nums_errArg), ("postrider/nums.errNum", laid_postrider_nums_errNum), ("postrider/nums.errShort", laid_postrider_nums_errShort), ("postrider/head.errArg", laid_postrider_head_errArg), ("postrider/head.errNum", laid_postrider_head_errNum), ("postrider/head.errShort", laid_postrider_head_errShort), ("postrider/head.errForm", laid_postrider_head_errForm), ("postrider/head.wides", laid_postrider_head_wides)] }
def HeadShortSaid : Prop := headShortRow.holds Tryd.pinned (OpenSpec.ofChange headShortSpec)

/-- ITS FALSE NEIGHBOUR: 'it returns false'. Refute it at one input. -/
def headShortWrong : ChangeSpec := { name := "headShort", fn := fun _ => fun
  | [d1, d2, d3] => { results := [.lit (.bool false)], args := [d1, d2, d3] }
  | _ => none }
def HeadShortWrongFalsely : Prop := headShortRow.holds Tryd.pinned (OpenSpec.ofChange headShortWrong)

/-- 'postriderlaw03.HeadReads': WHATEVER THE INPUT: true; the input reads as it did. -/
def headReadsSpec : ChangeSpec := { name := "headReads", fn := fun _ => fun
  | [d1, d2] => { results := [.lit (.bool true)], args := [d1, d2] }
  | _ => none }
def headReadsRow : OpenClaim := { program := "ytnmdbmmkmbdiaaadoor", sum := "30fb21216f42cd6af43d51503224df96fadae1da2efee24287bd9f615a57f78f", func := "postrider/postriderlaw03.HeadReads", spec := "headReads", inPlace := ["internal/reflectlite.TypeOf"], unfollowed := true, recurses := true, named := ["postrider/head.errArg", "postrider/head.errNum", "postrider/head.wides", "postrider/nums.errArg", "postrider/nums.errNum", "postrider/head.errShort", "postrider/head.errForm", "postrider/nums.errShort"], apart := false, laid := [("postrider/nums.errArg", laid_postrider_nums_errArg), ("postrider/nums.errNum", laid_postrider_nums_errNum), ("postrider/nums.errShort", laid_postrider_nums_errShort), ("postrider/head.errArg", laid_postrider_head_errArg), ("postrider/head.errNum", laid_postrider_head_errNum), ("postrider/head.errShort", laid_postrider_head_errShort), ("postrider/head.errForm", laid_postrider_head_errForm), ("postrider/head.wides", laid_postrider_head_wides)] }
def HeadReadsSaid : Prop := headReadsRow.holds Tryd.pinned (OpenSpec.ofChange headReadsSpec)

/-- ITS FALSE NEIGHBOUR: 'it returns false'. Refute it at one input. -/
def headReadsWrong : ChangeSpec := { name := "headReads", fn := fun _ => fun
  | [d1, d2] => { results := [.lit (.bool false)], args := [d1, d2] }
  | _ => none }
def HeadReadsWrongFalsely : Prop := headReadsRow.holds Tryd.pinned (OpenSpec.ofChange headReadsWrong)

/- THE SECOND FORM. 'bulk': how many values and letters a reading holds, each counted each time it is reached (what is shared counts as often as it is met; a slice's spare places count too). A statement '..UptoSaid' is the law's where the arguments, and the package variables that the reading takes, are together of bulk at most 1048576: NARROWER than '..Said'. Prove '..Said' where nothing that the law and all that it calls make is longer than what came in: it says more and counts as full. Else prove '..UptoSaid'. A law counts once. -/
mutual
def uptoBulk {H : Type} : DataW H → Nat
  | .lit (.string bytes) => bytes.length + 1
  | .lit _ => 1
  | .nil => 1
  | .ptr d => uptoBulk d + 1
  | .slice elems spare => uptoBulkAll elems + uptoBulkAll spare + 1
  | .agg parts => uptoBulkAll parts + 1
  | .iface _ d => uptoBulk d + 1
  | .map entries => uptoBulkEntries entries + 1
  | .held _ => 1
def uptoBulkAll {H : Type} : List (DataW H) → Nat
  | [] => 0
  | d :: r => uptoBulk d + uptoBulkAll r
def uptoBulkEntries {H : Type} : List (Lit × DataW H) → Nat
  | [] => 0
  | x :: r => uptoBulkEntry x + uptoBulkEntries r
def uptoBulkEntry {H : Type} : Lit × DataW H → Nat
  | (.string bytes, d) => bytes.length + uptoBulk d + 1
  | (_, d) => uptoBulk d + 1
 end
def uptoSmall : (H : Type) → List (DataW H) → Bool := fun _ ds => decide (uptoBulkAll ds ≤ 1048576)
def OpenSpec.upto (s : _root_.Go.ChangeSpec) : _root_.Go.OpenSpec := { _root_.Go.OpenSpec.ofChange s with cond := some uptoSmall }

/-- 'postriderlaw03.HeadCodes', WHERE WHAT IT READS IS OF BULK AT MOST 1048576: true; the input reads as it did. -/
def headCodesUptoRow : OpenClaim := { program := "ytnmdbmmkmbdiaaadoor", sum := "30fb21216f42cd6af43d51503224df96fadae1da2efee24287bd9f615a57f78f", func := "postrider/postriderlaw03.HeadCodes", spec := "headCodes", inPlace := ["internal/reflectlite.TypeOf"], unfollowed := true, recurses := true, named := ["postrider/head.errArg", "postrider/head.errNum", "postrider/head.wides", "postrider/nums.errArg", "postrider/nums.errNum", "postrider/head.errShort", "postrider/head.errForm", "postrider/nums.errShort"], apart := false, laid := [("postrider/nums.errArg", laid_postrider_nums_errArg), ("postrider/nums.errNum", laid_postrider_nums_errNum), ("postrider/nums.errShort", laid_postrider_nums_errShort), ("postrider/head.errArg", laid_postrider_head_errArg), ("postrider/head.errNum", laid_postrider_head_errNum), ("postrider/head.errShort", laid_postrider_head_errShort), ("postrider/head.errForm", laid_postrider_head_errForm), ("postrider/head.wides", laid_postrider_head_wides)], narrowed := true }
def HeadCodesUptoSaid : Prop := headCodesUptoRow.holds Tryd.pinned (OpenSpec.upto headCodesSpec)

/-- 'postriderlaw03.HeadBack', WHERE WHAT IT READS IS OF BULK AT MOST 1048576: true; the input reads as it did. -/
def headBackUptoRow : OpenClaim := { program := "ytnmdbmmkmbdiaaadoor", sum := "30fb21216f42cd6af43d51503224df96fadae1da2efee24287bd9f615a57f78f", func := "postrider/postriderlaw03.HeadBack", spec := "headBack", inPlace := ["internal/reflectlite.TypeOf"], unfollowed := true, recurses := true, named := ["postrider/head.errArg", "postrider/head.errNum", "postrider/head.wides", "postrider/nums.errArg", "postrider/nums.errNum", "postrider/head.errShort", "postrider/head.errForm", "postrider/nums.errShort"], apart := false, laid := [("postrider/nums.errArg", laid_postrider_nums_errArg), ("postrider/nums.errNum", laid_postrider_nums_errNum), ("postrider/nums.errShort", laid_postrider_nums_errShort), ("postrider/head.errArg", laid_postrider_head_errArg), ("postrider/head.errNum", laid_postrider_head_errNum), ("postrider/head.errShort", laid_postrider_head_errShort), ("postrider/head.errForm", laid_postrider_head_errForm), ("postrider/head.wides", laid_postrider_head_wides)], narrowed := true }
def HeadBackUptoSaid : Prop := headBackUptoRow.holds Tryd.pinned (OpenSpec.upto headBackSpec)

/-- 'postriderlaw03.HeadApart', WHERE WHAT IT READS IS OF BULK AT MOST 1048576: true; the input reads as it did. -/
def headApartUptoRow : OpenClaim := { program := "ytnmdbmmkmbdiaaadoor", sum := "30fb21216f42cd6af43d51503224df96fadae1da2efee24287bd9f615a57f78f", func := "postrider/postriderlaw03.HeadApart", spec := "headApart", inPlace := ["internal/reflectlite.TypeOf"], unfollowed := true, recurses := true, named := ["postrider/head.errArg", "postrider/head.errNum", "postrider/head.wides", "postrider/nums.errArg", "postrider/nums.errNum", "postrider/head.errShort", "postrider/head.errForm", "postrider/nums.errShort"], apart := false, laid := [("postrider/nums.errArg", laid_postrider_nums_errArg), ("postrider/nums.errNum", laid_postrider_nums_errNum), ("postrider/nums.errShort", laid_postrider_nums_errShort), ("postrider/head.errArg", laid_postrider_head_errArg), ("postrider/head.errNum", laid_postrider_head_errNum), ("postrider/head.errShort", laid_postrider_head_errShort), ("postrider/head.errForm", laid_postrider_head_errForm), ("postrider/head.wides", laid_postrider_head_wides)], narrowed := true }
def HeadApartUptoSaid : Prop := headApartUptoRow.holds Tryd.pinned (OpenSpec.upto headApartSpec)

/-- 'postriderlaw03.HeadSizes', WHERE WHAT IT READS IS OF BULK AT MOST 1048576: true; the input reads as it did. -/
def headSizesUptoRow : OpenClaim := { program := "ytnmdbmmkmbdiaaadoor", sum := "30fb21216f42cd6af43d51503224df96fadae1da2efee24287bd9f615a57f78f", func := "postrider/postriderlaw03.HeadSizes", spec := "headSizes", inPlace := ["internal/reflectlite.TypeOf"], unfollowed := true, recurses := true, named := ["postrider/head.errArg", "postrider/head.errNum", "postrider/head.wides", "postrider/nums.errArg", "postrider/nums.errNum", "postrider/head.errShort", "postrider/head.errForm", "postrider/nums.errShort"], apart := false, laid := [("postrider/nums.errArg", laid_postrider_nums_errArg), ("postrider/nums.errNum", laid_postrider_nums_errNum), ("postrider/nums.errShort", laid_postrider_nums_errShort), ("postrider/head.errArg", laid_postrider_head_errArg), ("postrider/head.errNum", laid_postrider_head_errNum), ("postrider/head.errShort", laid_postrider_head_errShort), ("postrider/head.errForm", laid_postrider_head_errForm), ("postrider/head.wides", laid_postrider_head_wides)], narrowed := true }
def HeadSizesUptoSaid : Prop := headSizesUptoRow.holds Tryd.pinned (OpenSpec.upto headSizesSpec)

/-- 'postriderlaw03.HeadOrder', WHERE WHAT IT READS IS OF BULK AT MOST 1048576: true; the input reads as it did. -/
def headOrderUptoRow : OpenClaim := { program := "ytnmdbmmkmbdiaaadoor", sum := "30fb21216f42cd6af43d51503224df96fadae1da2efee24287bd9f615a57f78f", func := "postrider/postriderlaw03.HeadOrder", spec := "headOrder", inPlace := ["internal/reflectlite.TypeOf"], unfollowed := true, recurses := true, named := ["postrider/head.errArg", "postrider/head.errNum", "postrider/head.wides", "postrider/nums.errArg", "postrider/nums.errNum", "postrider/head.errShort", "postrider/head.errForm", "postrider/nums.errShort"], apart := false, laid := [("postrider/nums.errArg", laid_postrider_nums_errArg), ("postrider/nums.errNum", laid_postrider_nums_errNum), ("postrider/nums.errShort", laid_postrider_nums_errShort), ("postrider/head.errArg", laid_postrider_head_errArg), ("postrider/head.errNum", laid_postrider_head_errNum), ("postrider/head.errShort", laid_postrider_head_errShort), ("postrider/head.errForm", laid_postrider_head_errForm), ("postrider/head.wides", laid_postrider_head_wides)], narrowed := true }
def HeadOrderUptoSaid : Prop := headOrderUptoRow.holds Tryd.pinned (OpenSpec.upto headOrderSpec)

/-- 'postriderlaw03.HeadShort', WHERE WHAT IT READS IS OF BULK AT MOST 1048576: true; the input reads as it did. -/
def headShortUptoRow : OpenClaim := { program := "ytnmdbmmkmbdiaaadoor", sum := "30fb21216f42cd6af43d51503224df96fadae1da2efee24287bd9f615a57f78f", func := "postrider/postriderlaw03.HeadShort", spec := "headShort", inPlace := ["internal/reflectlite.TypeOf"], unfollowed := true, recurses := true, named := ["postrider/head.errArg", "postrider/head.errNum", "postrider/head.wides", "postrider/nums.errArg", "postrider/nums.errNum", "postrider/head.errShort", "postrider/head.errForm", "postrider/nums.errShort"], apart := false, laid := [("postrider/nums.errArg", laid_postrider_nums_errArg), ("postrider/nums.errNum", laid_postrider_nums_errNum), ("postrider/nums.errShort", laid_postrider_nums_errShort), ("postrider/head.errArg", laid_postrider_head_errArg), ("postrider/head.errNum", laid_postrider_head_errNum), ("postrider/head.errShort", laid_postrider_head_errShort), ("postrider/head.errForm", laid_postrider_head_errForm), ("postrider/head.wides", laid_postrider_head_wides)], narrowed := true }
def HeadShortUptoSaid : Prop := headShortUptoRow.holds Tryd.pinned (OpenSpec.upto headShortSpec)

/-- 'postriderlaw03.HeadReads', WHERE WHAT IT READS IS OF BULK AT MOST 1048576: true; the input reads as it did. -/
def headReadsUptoRow : OpenClaim := { program := "ytnmdbmmkmbdiaaadoor", sum := "30fb21216f42cd6af43d51503224df96fadae1da2efee24287bd9f615a57f78f", func := "postrider/postriderlaw03.HeadReads", spec := "headReads", inPlace := ["internal/reflectlite.TypeOf"], unfollowed := true, recurses := true, named := ["postrider/head.errArg", "postrider/head.errNum", "postrider/head.wides", "postrider/nums.errArg", "postrider/nums.errNum", "postrider/head.errShort", "postrider/head.errForm", "postrider/nums.errShort"], apart := false, laid := [("postrider/nums.errArg", laid_postrider_nums_errArg), ("postrider/nums.errNum", laid_postrider_nums_errNum), ("postrider/nums.errShort", laid_postrider_nums_errShort), ("postrider/head.errArg", laid_postrider_head_errArg), ("postrider/head.errNum", laid_postrider_head_errNum), ("postrider/head.errShort", laid_postrider_head_errShort), ("postrider/head.errForm", laid_postrider_head_errForm), ("postrider/head.wides", laid_postrider_head_wides)], narrowed := true }
def HeadReadsUptoSaid : Prop := headReadsUptoRow.holds Tryd.pinned (OpenSpec.upto headReadsSpec)

end Rows
end Go.Proofs.YtnmdbmmkmbdiaaaDoor
