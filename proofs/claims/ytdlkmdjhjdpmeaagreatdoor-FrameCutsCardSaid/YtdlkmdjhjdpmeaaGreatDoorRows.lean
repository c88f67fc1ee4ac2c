/-
  NARROWER THAN 'FOR EVERY INPUT', by the rows' own cells (each row's printed sentence says how): FrameCodes: laid · FrameScans: laid · FrameBack: laid · FrameCuts: laid · FrameHurt: laid · FrameJoins: laid · FrameSizes: laid.
  DERIVED. THE GIVEN ROWS OF THIS SEAT. 7 by the template 'for every input the law returns true; each argument reads behind the call as it read before'; 0 by the template 'total and deterministic' (their statements: YtdlkmdjhjdpmeaaGreatDoorTotals.lean).
  GIVEN WITH THE SEED: the statements are not yours to turn. If you find one false, say at which input.
  Laid BY PROGRAM, IN A SANDBOX (cutbox-rows.mjs): the forced cells as the released guide's own fill.sh prints them over the translation 6874a23303add48c… (all of the seat's roots in one cut). By AI agents, Wed Nov 11 2026. No macro, syntax, notation, axiom, sorry.
-/
import Derived.Test.YtdlkmdjhjdpmeaaGreatDoorChecked
import GoSem.Claim
import GoSem.ClaimJoined
import GoSem.ClaimMapViews
import Derived.JoinedTies
import Derived.KernelRfl
namespace Go.Proofs.YtdlkmdjhjdpmeaaGreatDoor
/- THE CELL 'sum', in the pinned program and in every row, IS THE sha256 OF THE DUMP (.gsa) THAT YtdlkmdjhjdpmeaaGreatDoorProg.lean LOADS. Nothing in Lean hashes anything: it is a label: what it is worth is what the hold of that sum in a sandbox is worth. -/
noncomputable def Tryz.pinned : Pinned := { name := "ytdlkmdjhjdpmeaagreatdoor", sum := "6874a23303add48ce35f1de2186aa62b724fc63292b2be1595f01078006d34c0", checked := Tryz.checked }
namespace Rows
def none {H : Type} : Left H := { results := [], args := [] }

/- WHAT THE LISTED PACKAGE-LEVEL VARIABLES READ AS WHEN THE CALL BEGINS. Each datum BY PROGRAM (the guide's laid-datum.mjs) off the statement by which the dump's own 'gosem.cut.vars' lays the variable. In a bare row this is a premise. The card (YtdlkmdjhjdpmeaaGreatDoorCards.lean) ties it to the program's text. -/
def laid_postrider_nums_errArg {H : Type} : DataW H := .iface "*errors.errorString" (.ptr (.agg [.lit (.string [110, 117, 109, 115, 58, 32, 110, 111, 32, 115, 117, 99, 104, 32, 119, 105, 100, 116, 104])]))
def laid_postrider_nums_errNum {H : Type} : DataW H := .iface "*errors.errorString" (.ptr (.agg [.lit (.string [110, 117, 109, 115, 58, 32, 110, 111, 32, 110, 117, 109, 98, 101, 114, 44, 32, 111, 114, 32, 110, 111, 110, 101, 32, 116, 104, 97, 116, 32, 116, 104, 101, 32, 119, 105, 100, 116, 104, 32, 104, 97, 115, 32, 114, 111, 111, 109, 32, 102, 111, 114])]))
def laid_postrider_nums_errShort {H : Type} : DataW H := .iface "*errors.errorString" (.ptr (.agg [.lit (.string [110, 117, 109, 115, 58, 32, 110, 111, 32, 115, 117, 99, 104, 32, 112, 108, 97, 99, 101, 44, 32, 111, 114, 32, 116, 111, 111, 32, 102, 101, 119, 32, 98, 121, 116, 101, 115, 32, 102, 114, 111, 109, 32, 116, 104, 101, 114, 101, 32, 111, 110])]))
def laid_postrider_crc_errArg {H : Type} : DataW H := .iface "*errors.errorString" (.ptr (.agg [.lit (.string [99, 114, 99, 58, 32, 110, 111, 32, 115, 117, 99, 104, 32, 107, 105, 110, 100, 32, 111, 102, 32, 115, 117, 109, 115])]))
def laid_postrider_crc_errTable {H : Type} : DataW H := .iface "*errors.errorString" (.ptr (.agg [.lit (.string [99, 114, 99, 58, 32, 110, 111, 32, 116, 97, 98, 108, 101, 32, 104, 97, 115, 32, 115, 111, 32, 109, 97, 110, 121, 32, 110, 117, 109, 98, 101, 114, 115])]))
def laid_postrider_crc_sumKinds {H : Type} : DataW H := .agg [.agg [.lit (.int .i64 0), .lit (.int .i64 0), .lit (.int .u32 0)], .agg [.lit (.int .i64 1), .lit (.int .i64 2), .lit (.int .u32 33800)], .agg [.lit (.int .i64 2), .lit (.int .i64 4), .lit (.int .u32 2197175160)]]

/-- 'postriderlaw17.FrameCodes': WHATEVER THE INPUT: true; the input reads as it did. -/
def frameCodesSpec : ChangeSpec := { name := "frameCodes", fn := fun _ => fun
  | [d1, d2, d3] => { results := [.lit (.bool true)], args := [d1, d2, d3] }
  | _ => none }
def frameCodesRow : OpenClaim := { program := "ytdlkmdjhjdpmeaagreatdoor", sum := "6874a23303add48ce35f1de2186aa62b724fc63292b2be1595f01078006d34c0", func := "postrider/postriderlaw17.FrameCodes", spec := "frameCodes", inPlace := ["internal/reflectlite.TypeOf", "internal/abi.NoEscape", "internal/bytealg.MakeNoZero"], unfollowed := true, recurses := true, named := ["postrider/nums.errArg", "postrider/nums.errNum", "postrider/crc.errArg", "postrider/crc.sumKinds", "postrider/crc.errTable", "postrider/nums.errShort"], apart := false, laid := [("postrider/nums.errArg", laid_postrider_nums_errArg), ("postrider/nums.errNum", laid_postrider_nums_errNum), ("postrider/nums.errShort", laid_postrider_nums_errShort), ("postrider/crc.errArg", laid_postrider_crc_errArg), ("postrider/crc.errTable", laid_postrider_crc_errTable), ("postrider/crc.sumKinds", laid_postrider_crc_sumKinds)] }
def FrameCodesSaid : Prop := frameCodesRow.holds Tryz.pinned (OpenSpec.ofChange frameCodesSpec)

/-- ITS FALSE NEIGHBOUR: 'it returns false'. Refute it at one input. -/
def frameCodesWrong : ChangeSpec := { name := "frameCodes", fn := fun _ => fun
  | [d1, d2, d3] => { results := [.lit (.bool false)], args := [d1, d2, d3] }
  | _ => none }
def FrameCodesWrongFalsely : Prop := frameCodesRow.holds Tryz.pinned (OpenSpec.ofChange frameCodesWrong)

/-- 'postriderlaw17.FrameScans': WHATEVER THE INPUT: true; the input reads as it did. -/
def frameScansSpec : ChangeSpec := { name := "frameScans", fn := fun _ => fun
  | [d1, d2] => { results := [.lit (.bool true)], args := [d1, d2] }
  | _ => none }
def frameScansRow : OpenClaim := { program := "ytdlkmdjhjdpmeaagreatdoor", sum := "6874a23303add48ce35f1de2186aa62b724fc63292b2be1595f01078006d34c0", func := "postrider/postriderlaw17.FrameScans", spec := "frameScans", inPlace := ["internal/reflectlite.TypeOf", "internal/abi.NoEscape", "internal/bytealg.MakeNoZero"], unfollowed := true, recurses := true, named := ["postrider/nums.errArg", "postrider/nums.errNum", "postrider/crc.errArg", "postrider/crc.sumKinds", "postrider/crc.errTable", "postrider/nums.errShort"], apart := false, laid := [("postrider/nums.errArg", laid_postrider_nums_errArg), ("postrider/nums.errNum", laid_postrider_nums_errNum), ("postrider/nums.errShort", laid_postrider_nums_errShort), ("postrider/crc.errArg", laid_postrider_crc_errArg), ("postrider/crc.errTable", laid_postrider_crc_errTable), ("postrider/crc.sumKinds", laid_postrider_crc_sumKinds)] }
def FrameScansSaid : Prop := frameScansRow.holds Tryz.pinned (OpenSpec.ofChange frameScansSpec)

/-- ITS FALSE NEIGHBOUR: 'it returns false'. Refute it at one input. -/
def frameScansWrong : ChangeSpec := { name := "frameScans", fn := fun _ => fun
  | [d1, d2] => { results := [.lit (.bool false)], args := [d1, d2] }
  | _ => none }
def FrameScansWrongFalsely : Prop := frameScansRow.holds Tryz.pinned (OpenSpec.ofChange frameScansWrong)

/-- 'postriderlaw17.FrameBack': WHATEVER THE INPUT: true; the input reads as it did. -/
def frameBackSpec : ChangeSpec := { name := "frameBack", fn := fun _ => fun
  | [d1, d2] => { results := [.lit (.bool true)], args := [d1, d2] }
  | _ => none }
def frameBackRow : OpenClaim := { program := "ytdlkmdjhjdpmeaagreatdoor", sum := "6874a23303add48ce35f1de2186aa62b724fc63292b2be1595f01078006d34c0", func := "postrider/postriderlaw17.FrameBack", spec := "frameBack", inPlace := ["internal/reflectlite.TypeOf", "internal/abi.NoEscape", "internal/bytealg.MakeNoZero"], unfollowed := true, recurses := true, named := ["postrider/nums.errArg", "postrider/nums.errNum", "postrider/crc.errArg", "postrider/crc.sumKinds", "postrider/crc.errTable", "postrider/nums.errShort"], apart := false, laid := [("postrider/nums.errArg", laid_postrider_nums_errArg), ("postrider/nums.errNum", laid_postrider_nums_errNum), ("postrider/nums.errShort", laid_postrider_nums_errShort), ("postrider/crc.errArg", laid_postrider_crc_errArg), ("postrider/crc.errTable", laid_postrider_crc_errTable), ("postrider/crc.sumKinds", laid_postrider_crc_sumKinds)] }
def FrameBackSaid : Prop := frameBackRow.holds Tryz.pinned (OpenSpec.ofChange frameBackSpec)

/-- ITS FALSE NEIGHBOUR: 'it returns false'. Refute it at one input. -/
def frameBackWrong : ChangeSpec := { name := "frameBack", fn := fun _ => fun
  | [d1, d2] => { results := [.lit (.bool false)], args := [d1, d2] }
  | _ => none }
def FrameBackWrongFalsely : Prop := frameBackRow.holds Tryz.pinned (OpenSpec.ofChange frameBackWrong)

/-- 'postriderlaw17.FrameCuts': WHATEVER THE INPUT: true; the input reads as it did. -/
def frameCutsSpec : ChangeSpec := { name := "frameCuts", fn := fun _ => fun
  | [d1, d2] => { results := [.lit (.bool true)], args := [d1, d2] }
  | _ => none }
def frameCutsRow : OpenClaim := { program := "ytdlkmdjhjdpmeaagreatdoor", sum := "6874a23303add48ce35f1de2186aa62b724fc63292b2be1595f01078006d34c0", func := "postrider/postriderlaw17.FrameCuts", spec := "frameCuts", inPlace := ["internal/reflectlite.TypeOf", "internal/abi.NoEscape", "internal/bytealg.MakeNoZero"], unfollowed := true, recurses := true, named := ["postrider/nums.errArg", "postrider/nums.errNum", "postrider/crc.errArg", "postrider/crc.sumKinds", "postrider/crc.errTable", "postrider/nums.errShort"], apart := false, laid := [("postrider/nums.errArg", laid_postrider_nums_errArg), ("postrider/nums.errNum", laid_postrider_nums_errNum), ("postrider/nums.errShort", laid_postrider_nums_errShort), ("postrider/crc.errArg", laid_postrider_crc_errArg), ("postrider/crc.errTable", laid_postrider_crc_errTable), ("postrider/crc.sumKinds", laid_postrider_crc_sumKinds)] }
def FrameCutsSaid : Prop := frameCutsRow.holds Tryz.pinned (OpenSpec.ofChange frameCutsSpec)

/-- ITS FALSE NEIGHBOUR: 'it returns false'. Refute it at one input. -/
def frameCutsWrong : ChangeSpec := { name := "frameCuts", fn := fun _ => fun
  | [d1, d2] => { results := [.lit (.bool false)], args := [d1, d2] }
  | _ => none }
def FrameCutsWrongFalsely : Prop := frameCutsRow.holds Tryz.pinned (OpenSpec.ofChange frameCutsWrong)

/-- 'postriderlaw17.FrameHurt': WHATEVER THE INPUT: true; the input reads as it did. -/
def frameHurtSpec : ChangeSpec := { name := "frameHurt", fn := fun _ => fun
  | [d1, d2, d3] => { results := [.lit (.bool true)], args := [d1, d2, d3] }
  | _ => none }
def frameHurtRow : OpenClaim := { program := "ytdlkmdjhjdpmeaagreatdoor", sum := "6874a23303add48ce35f1de2186aa62b724fc63292b2be1595f01078006d34c0", func := "postrider/postriderlaw17.FrameHurt", spec := "frameHurt", inPlace := ["internal/reflectlite.TypeOf", "internal/abi.NoEscape", "internal/bytealg.MakeNoZero"], unfollowed := true, recurses := true, named := ["postrider/nums.errArg", "postrider/nums.errNum", "postrider/crc.errArg", "postrider/crc.sumKinds", "postrider/crc.errTable", "postrider/nums.errShort"], apart := false, laid := [("postrider/nums.errArg", laid_postrider_nums_errArg), ("postrider/nums.errNum", laid_postrider_nums_errNum), ("postrider/nums.errShort", laid_postrider_nums_errShort), ("postrider/crc.errArg", laid_postrider_crc_errArg), ("postrider/crc.errTable", laid_postrider_crc_errTable), ("postrider/crc.sumKinds", laid_postrider_crc_sumKinds)] }
def FrameHurtSaid : Prop := frameHurtRow.holds Tryz.pinned (OpenSpec.ofChange frameHurtSpec)

/-- ITS FALSE NEIGHBOUR: 'it returns false'. Refute it at one input. -/
def frameHurtWrong : ChangeSpec := { name := "frameHurt", fn := fun _ => fun
  | [d1, d2, d3] => { results := [.lit (.bool false)], args := [d1, d2, d3] }
  | _ => none }
def FrameHurtWrongFalsely : Prop := frameHurtRow.holds Tryz.pinned (OpenSpec.ofChange frameHurtWrong)

/-- 'postriderlaw17.FrameJoins': WHATEVER THE INPUT: true; the input reads as it did. -/
def frameJoinsSpec : ChangeSpec := { name := "frameJoins", fn := fun _ => fun
  | [d1, d2] => { results := [.lit (.bool true)], args := [d1, d2] }
  | _ => none }
def frameJoinsRow : OpenClaim := { program := "ytdlkmdjhjdpmeaagreatdoor", sum := "6874a23303add48ce35f1de2186aa62b724fc63292b2be1595f01078006d34c0", func := "postrider/postriderlaw17.FrameJoins", spec := "frameJoins", inPlace := ["internal/reflectlite.TypeOf", "internal/abi.NoEscape", "internal/bytealg.MakeNoZero"], unfollowed := true, recurses := true, named := ["postrider/nums.errArg", "postrider/nums.errNum", "postrider/crc.errArg", "postrider/crc.sumKinds", "postrider/crc.errTable", "postrider/nums.errShort"], apart := false, laid := [("postrider/nums.errArg", laid_postrider_nums_errArg), ("postrider/nums.errNum", laid_postrider_nums_errNum), ("postrider/nums.errShort", laid_postrider_nums_errShort), ("postrider/crc.errArg", laid_postrider_crc_errArg), ("postrider/crc.errTable", laid_postrider_crc_errTable), ("postrider/crc.sumKinds", laid_postrider_crc_sumKinds)] }
def FrameJoinsSaid : Prop := frameJoinsRow.holds Tryz.pinned (OpenSpec.ofChange frameJoinsSpec)

/-- ITS FALSE NEIGHBOUR: 'it returns false'. Refute it at one input. -/
def frameJoinsWrong : ChangeSpec := { name := "frameJoins", fn := fun _ => fun
  | [d1, d2] => { results := [.lit (.bool false)], args := [d1, d2] }
  | _ => none }
def FrameJoinsWrongFalsely : Prop := frameJoinsRow.holds Tryz.pinned (OpenSpec.ofChange frameJoinsWrong)

/-- 'postriderlaw17.FrameSizes': WHATEVER THE INPUT: true; the input reads as it did. -/
def frameSizesSpec : ChangeSpec := { name := "frameSizes", fn := fun _ => fun
  | [d] => { results := [.lit (.bool true)], args := [d] }
  | _ => none }
def frameSizesRow : OpenClaim := { program := "ytdlkmdjhjdpmeaagreatdoor", sum := "6874a23303add48ce35f1de2186aa62b724fc63292b2be1595f01078006d34c0", func := "postrider/postriderlaw17.FrameSizes", spec := "frameSizes", inPlace := ["internal/reflectlite.TypeOf", "internal/abi.NoEscape", "internal/bytealg.MakeNoZero"], unfollowed := true, recurses := true, named := ["postrider/nums.errArg", "postrider/nums.errNum", "postrider/crc.errArg", "postrider/crc.sumKinds", "postrider/crc.errTable", "postrider/nums.errShort"], apart := false, laid := [("postrider/nums.errArg", laid_postrider_nums_errArg), ("postrider/nums.errNum", laid_postrider_nums_errNum), ("postrider/nums.errShort", laid_postrider_nums_errShort), ("postrider/crc.errArg", laid_postrider_crc_errArg), ("postrider/crc.errTable", laid_postrider_crc_errTable), ("postrider/crc.sumKinds", laid_postrider_crc_sumKinds)] }
def FrameSizesSaid : Prop := frameSizesRow.holds Tryz.pinned (OpenSpec.ofChange frameSizesSpec)

/-- ITS FALSE NEIGHBOUR: 'it returns false'. Refute it at one input. -/
def frameSizesWrong : ChangeSpec := { name := "frameSizes", fn := fun _ => fun
  | [d] => { results := [.lit (.bool false)], args := [d] }
  | _ => none }
def FrameSizesWrongFalsely : Prop := frameSizesRow.holds Tryz.pinned (OpenSpec.ofChange frameSizesWrong)

/- THE SECOND FORM. 'bulk': how many values and letters a reading holds, each counted each time it is reached (what is shared counts as often as it is met; a slice's spare places count too). A statement '..UptoSaid' is the law's where the arguments, and the package variables that the reading takes, are together of bulk at most 1048576: NARROWER than '..Said'. Prove '..Said' where nothing that the law and all that it calls make is longer than what came in: it says more and counts as full. Else prove '..UptoSaid'. A law counts once. -/
mutual
def uptoBulk {H : Type} : DataW H → Nat
  | .lit (.string bytes) => bytes.length + 1
  | .lit _ => 1
  | .nil => 1
  | .ptr d => uptoBulk d + 1
  | .slice elems spare => uptoBulkAll elems + uptoBulkAll spare + 1
  | .agg parts => uptoBulkAll parts + 1
  | .iface _ d => uptoBulk d + 1
  | .map entries => uptoBulkEntries entries + 1
  | .held _ => 1
def uptoBulkAll {H : Type} : List (DataW H) → Nat
  | [] => 0
  | d :: r => uptoBulk d + uptoBulkAll r
def uptoBulkEntries {H : Type} : List (Lit × DataW H) → Nat
  | [] => 0
  | x :: r => uptoBulkEntry x + uptoBulkEntries r
def uptoBulkEntry {H : Type} : Lit × DataW H → Nat
  | (.string bytes, d) => bytes.length + uptoBulk d + 1
  | (_, d) => uptoBulk d + 1
 end
def uptoSmall : (H : Type) → List (DataW H) → Bool := fun _ ds => decide (uptoBulkAll ds ≤ 1048576)
def OpenSpec.upto (s : _root_.Go.ChangeSpec) : _root_.Go.OpenSpec := { _root_.Go.OpenSpec.ofChange s with cond := some uptoSmall }

/-- 'postriderlaw17.FrameCodes', WHERE WHAT IT READS IS OF BULK AT MOST 1048576: true; the input reads as it did. -/
def frameCodesUptoRow : OpenClaim := { program := "ytdlkmdjhjdpmeaagreatdoor", sum := "6874a23303add48ce35f1de2186aa62b724fc63292b2be1595f01078006d34c0", func := "postrider/postriderlaw17.FrameCodes", spec := "frameCodes", inPlace := ["internal/reflectlite.TypeOf", "internal/abi.NoEscape", "internal/bytealg.MakeNoZero"], unfollowed := true, recurses := true, named := ["postrider/nums.errArg", "postrider/nums.errNum", "postrider/crc.errArg", "postrider/crc.sumKinds", "postrider/crc.errTable", "postrider/nums.errShort"], apart := false, laid := [("postrider/nums.errArg", laid_postrider_nums_errArg), ("postrider/nums.errNum", laid_postrider_nums_errNum), ("postrider/nums.errShort", laid_postrider_nums_errShort), ("postrider/crc.errArg", laid_postrider_crc_errArg), ("postrider/crc.errTable", laid_postrider_crc_errTable), ("postrider/crc.sumKinds", laid_postrider_crc_sumKinds)], narrowed := true }
def FrameCodesUptoSaid : Prop := frameCodesUptoRow.holds Tryz.pinned (OpenSpec.upto frameCodesSpec)

/-- 'postriderlaw17.FrameScans', WHERE WHAT IT READS IS OF BULK AT MOST 1048576: true; the input reads as it did. -/
def frameScansUptoRow : OpenClaim := { program := "ytdlkmdjhjdpmeaagreatdoor", sum := "6874a23303add48ce35f1de2186aa62b724fc63292b2be1595f01078006d34c0", func := "postrider/postriderlaw17.FrameScans", spec := "frameScans", inPlace := ["internal/reflectlite.TypeOf", "internal/abi.NoEscape", "internal/bytealg.MakeNoZero"], unfollowed := true, recurses := true, named := ["postrider/nums.errArg", "postrider/nums.errNum", "postrider/crc.errArg", "postrider/crc.sumKinds", "postrider/crc.errTable", "postrider/nums.errShort"], apart := false, laid := [("postrider/nums.errArg", laid_postrider_nums_errArg), ("postrider/nums.errNum", laid_postrider_nums_errNum), ("postrider/nums.errShort", laid_postrider_nums_errShort), ("postrider/crc.errArg", laid_postrider_crc_errArg), ("postrider/crc.errTable", laid_postrider_crc_errTable), ("postrider/crc.sumKinds", laid_postrider_crc_sumKinds)], narrowed := true }
def FrameScansUptoSaid : Prop := frameScansUptoRow.holds Tryz.pinned (OpenSpec.upto frameScansSpec)

/-- 'postriderlaw17.FrameBack', WHERE WHAT IT READS IS OF BULK AT MOST 1048576: true; the input reads as it did. -/
def frameBackUptoRow : OpenClaim := { program := "ytdlkmdjhjdpmeaagreatdoor", sum := "6874a23303add48ce35f1de2186aa62b724fc63292b2be1595f01078006d34c0", func := "postrider/postriderlaw17.FrameBack", spec := "frameBack", inPlace := ["internal/reflectlite.TypeOf", "internal/abi.NoEscape", "internal/bytealg.MakeNoZero"], unfollowed := true, recurses := true, named := ["postrider/nums.errArg", "postrider/nums.errNum", "postrider/crc.errArg", "postrider/crc.sumKinds", "postrider/crc.errTable", "postrider/nums.errShort"], apart := false, laid := [("postrider/nums.errArg", laid_postrider_nums_errArg), ("postrider/nums.errNum", laid_postrider_nums_errNum), ("postrider/nums.errShort", laid_postrider_nums_errShort), ("postrider/crc.errArg", laid_postrider_crc_errArg), ("postrider/crc.errTable", laid_postrider_crc_errTable), ("postrider/crc.sumKinds", laid_postrider_crc_sumKinds)], narrowed := true }
def FrameBackUptoSaid : Prop := frameBackUptoRow.holds Tryz.pinned (OpenSpec.upto frameBackSpec)

/-- 'postriderlaw17.FrameCuts', WHERE WHAT IT READS IS OF BULK AT MOST 1048576: true; the input reads as it did. -/
def frameCutsUptoRow : OpenClaim := { program := "ytdlkmdjhjdpmeaagreatdoor", sum := "6874a23303add48ce35f1de2186aa62b724fc63292b2be1595f01078006d34c0", func := "postrider/postriderlaw17.FrameCuts", spec := "frameCuts", inPlace := ["internal/reflectlite.TypeOf", "internal/abi.NoEscape", "internal/bytealg.MakeNoZero"], unfollowed := true, recurses := true, named := ["postrider/nums.errArg", "postrider/nums.errNum", "postrider/crc.errArg", "postrider/crc.sumKinds", "postrider/crc.errTable", "postrider/nums.errShort"], apart := false, laid := [("postrider/nums.errArg", laid_postrider_nums_errArg), ("postrider/nums.errNum", laid_postrider_nums_errNum), ("postrider/nums.errShort", laid_postrider_nums_errShort), ("postrider/crc.errArg", laid_postrider_crc_errArg), ("postrider/crc.errTable", laid_postrider_crc_errTable), ("postrider/crc.sumKinds", laid_postrider_crc_sumKinds)], narrowed := true }
def FrameCutsUptoSaid : Prop := frameCutsUptoRow.holds Tryz.pinned (OpenSpec.upto frameCutsSpec)

/-- 'postriderlaw17.FrameHurt', WHERE WHAT IT READS IS OF BULK AT MOST 1048576: true; the input reads as it did. -/
def frameHurtUptoRow : OpenClaim := { program := "ytdlkmdjhjdpmeaagreatdoor", sum := "6874a23303add48ce35f1de2186aa62b724fc63292b2be1595f01078006d34c0", func := "postrider/postriderlaw17.FrameHurt", spec := "frameHurt", inPlace := ["internal/reflectlite.TypeOf", "internal/abi.NoEscape", "internal/bytealg.MakeNoZero"], unfollowed := true, recurses := true, named := ["postrider/nums.errArg", "postrider/nums.errNum", "postrider/crc.errArg", "postrider/crc.sumKinds", "postrider/crc.errTable", "postrider/nums.errShort"], apart := false, laid := [("postrider/nums.errArg", laid_postrider_nums_errArg), ("postrider/nums.errNum", laid_postrider_nums_errNum), ("postrider/nums.errShort", laid_postrider_nums_errShort), ("postrider/crc.errArg", laid_postrider_crc_errArg), ("postrider/crc.errTable", laid_postrider_crc_errTable), ("postrider/crc.sumKinds", laid_postrider_crc_sumKinds)], narrowed := true }
def FrameHurtUptoSaid : Prop := frameHurtUptoRow.holds Tryz.pinned (OpenSpec.upto frameHurtSpec)

/-- 'postriderlaw17.FrameJoins', WHERE WHAT IT READS IS OF BULK AT MOST 1048576: true; the input reads as it did. -/
def frameJoinsUptoRow : OpenClaim := { program := "ytdlkmdjhjdpmeaagreatdoor", sum := "6874a23303add48ce35f1de2186aa62b724fc63292b2be1595f01078006d34c0", func := "postrider/postriderlaw17.FrameJoins", spec := "frameJoins", inPlace := ["internal/reflectlite.TypeOf", "internal/abi.NoEscape", "internal/bytealg.MakeNoZero"], unfollowed := true, recurses := true, named := ["postrider/nums.errArg", "postrider/nums.errNum", "postrider/crc.errArg", "postrider/crc.sumKinds", "postrider/crc.errTable", "postrider/nums.errShort"], apart := false, laid := [("postrider/nums.errArg", laid_postrider_nums_errArg), ("postrider/nums.errNum", laid_postrider_nums_errNum), ("postrider/nums.errShort", laid_postrider_nums_errShort), ("postrider/crc.errArg", laid_postrider_crc_errArg), ("postrider/crc.errTable", laid_postrider_crc_errTable), ("postrider/crc.sumKinds", laid_postrider_crc_sumKinds)], narrowed := true }
def FrameJoinsUptoSaid : Prop := frameJoinsUptoRow.holds Tryz.pinned (OpenSpec.upto frameJoinsSpec)

/-- 'postriderlaw17.FrameSizes', WHERE WHAT IT READS IS OF BULK AT MOST 1048576: true; the input reads as it did. -/
def frameSizesUptoRow : OpenClaim := { program := "ytdlkmdjhjdpmeaagreatdoor", sum := "6874a23303add48ce35f1de2186aa62b724fc63292b2be1595f01078006d34c0", func := "postrider/postriderlaw17.FrameSizes", spec := "frameSizes", inPlace := ["internal/reflectlite.TypeOf", "internal/abi.NoEscape", "internal/bytealg.MakeNoZero"], unfollowed := true, recurses := true, named := ["postrider/nums.errArg", "postrider/nums.errNum", "postrider/crc.errArg", "postrider/crc.sumKinds", "postrider/crc.errTable", "postrider/nums.errShort"], apart := false, laid := [("postrider/nums.errArg", laid_postrider_nums_errArg), ("postrider/nums.errNum", laid_postrider_nums_errNum), ("postrider/nums.errShort", laid_postrider_nums_errShort), ("postrider/crc.errArg", laid_postrider_crc_errArg), ("postrider/crc.errTable", laid_postrider_crc_errTable), ("postrider/crc.sumKinds", laid_postrider_crc_sumKinds)], narrowed := true }
def FrameSizesUptoSaid : Prop := frameSizesUptoRow.holds Tryz.pinned (OpenSpec.upto frameSizesSpec)

end Rows
end Go.Proofs.YtdlkmdjhjdpmeaaGreatDoor
