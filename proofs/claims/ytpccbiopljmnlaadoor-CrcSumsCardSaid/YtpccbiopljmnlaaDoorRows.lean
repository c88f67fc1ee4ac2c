/-
  NARROWER THAN 'FOR EVERY INPUT', by the rows' own cells (each row's printed sentence says how): CrcSums: laid · CrcOwn: laid · CrcBursts: laid · CrcMixed: laid · CrcTables: laid · CrcTurns: laid.
  DERIVED. THE GIVEN ROWS OF THIS SEAT. 6 by the template 'for every input the law returns true; each argument reads behind the call as it read before'; 0 by the template 'total and deterministic' (their statements: YtpccbiopljmnlaaDoorTotals.lean).
  GIVEN WITH THE SEED: the statements are not yours to turn. If you find one false, say at which input.
  Laid BY PROGRAM, IN A SANDBOX (cutbox-rows.mjs): the forced cells as the released guide's own fill.sh prints them over the translation c38b4331234fc199… (all of the seat's roots in one cut). By AI agents, Wed Nov 11 2026. No macro, syntax, notation, axiom, sorry.
-/
import Derived.Test.YtpccbiopljmnlaaDoorChecked
import GoSem.Claim
import GoSem.ClaimJoined
import GoSem.ClaimMapViews
import Derived.JoinedTies
import Derived.KernelRfl
namespace Go.Proofs.YtpccbiopljmnlaaDoor
/- THE CELL 'sum', in the pinned program and in every row, IS THE sha256 OF THE DUMP (.gsa) THAT YtpccbiopljmnlaaDoorProg.lean LOADS. Nothing in Lean hashes anything: it is a label: what it is worth is what the hold of that sum in a sandbox is worth. -/
noncomputable def Tryd.pinned : Pinned := { name := "ytpccbiopljmnlaadoor", sum := "c38b4331234fc1990ee8d2c056ce622b134d76f5588bcd8da1f6b68db4212974", checked := Tryd.checked }
namespace Rows
def none {H : Type} : Left H := { results := [], args := [] }

/- WHAT THE LISTED PACKAGE-LEVEL VARIABLES READ AS WHEN THE CALL BEGINS. Each datum BY PROGRAM (the guide's laid-datum.mjs) off the statement by which the dump's own 'gosem.cut.vars' lays the variable. In a bare row this is a premise. The card (YtpccbiopljmnlaaDoorCards.lean) ties it to the program's text. -/
def laid_postrider_nums_errArg {H : Type} : DataW H := .iface "*errors.errorString" (.ptr (.agg [.lit (.string [110, 117, 109, 115, 58, 32, 110, 111, 32, 115, 117, 99, 104, 32, 119, 105, 100, 116, 104])]))
def laid_postrider_nums_errNum {H : Type} : DataW H := .iface "*errors.errorString" (.ptr (.agg [.lit (.string [110, 117, 109, 115, 58, 32, 110, 111, 32, 110, 117, 109, 98, 101, 114, 44, 32, 111, 114, 32, 110, 111, 110, 101, 32, 116, 104, 97, 116, 32, 116, 104, 101, 32, 119, 105, 100, 116, 104, 32, 104, 97, 115, 32, 114, 111, 111, 109, 32, 102, 111, 114])]))
def laid_postrider_crc_errArg {H : Type} : DataW H := .iface "*errors.errorString" (.ptr (.agg [.lit (.string [99, 114, 99, 58, 32, 110, 111, 32, 115, 117, 99, 104, 32, 107, 105, 110, 100, 32, 111, 102, 32, 115, 117, 109, 115])]))
def laid_postrider_crc_errTable {H : Type} : DataW H := .iface "*errors.errorString" (.ptr (.agg [.lit (.string [99, 114, 99, 58, 32, 110, 111, 32, 116, 97, 98, 108, 101, 32, 104, 97, 115, 32, 115, 111, 32, 109, 97, 110, 121, 32, 110, 117, 109, 98, 101, 114, 115])]))
def laid_postrider_crc_sumKinds {H : Type} : DataW H := .agg [.agg [.lit (.int .i64 0), .lit (.int .i64 0), .lit (.int .u32 0)], .agg [.lit (.int .i64 1), .lit (.int .i64 2), .lit (.int .u32 33800)], .agg [.lit (.int .i64 2), .lit (.int .i64 4), .lit (.int .u32 2197175160)]]

/-- 'postriderlaw05.CrcSums': WHATEVER THE INPUT: true; the input reads as it did. -/
def crcSumsSpec : ChangeSpec := { name := "crcSums", fn := fun _ => fun
  | [d1, d2, d3] => { results := [.lit (.bool true)], args := [d1, d2, d3] }
  | _ => none }
def crcSumsRow : OpenClaim := { program := "ytpccbiopljmnlaadoor", sum := "c38b4331234fc1990ee8d2c056ce622b134d76f5588bcd8da1f6b68db4212974", func := "postrider/postriderlaw05.CrcSums", spec := "crcSums", inPlace := ["internal/reflectlite.TypeOf"], unfollowed := true, recurses := true, named := ["postrider/crc.errArg", "postrider/crc.sumKinds", "postrider/nums.errArg", "postrider/nums.errNum", "postrider/crc.errTable"], apart := false, laid := [("postrider/nums.errArg", laid_postrider_nums_errArg), ("postrider/nums.errNum", laid_postrider_nums_errNum), ("postrider/crc.errArg", laid_postrider_crc_errArg), ("postrider/crc.errTable", laid_postrider_crc_errTable), ("postrider/crc.sumKinds", laid_postrider_crc_sumKinds)] }
def CrcSumsSaid : Prop := crcSumsRow.holds Tryd.pinned (OpenSpec.ofChange crcSumsSpec)

/-- ITS FALSE NEIGHBOUR: 'it returns false'. Refute it at one input. -/
def crcSumsWrong : ChangeSpec := { name := "crcSums", fn := fun _ => fun
  | [d1, d2, d3] => { results := [.lit (.bool false)], args := [d1, d2, d3] }
  | _ => none }
def CrcSumsWrongFalsely : Prop := crcSumsRow.holds Tryd.pinned (OpenSpec.ofChange crcSumsWrong)

/-- 'postriderlaw05.CrcOwn': WHATEVER THE INPUT: true; the input reads as it did. -/
def crcOwnSpec : ChangeSpec := { name := "crcOwn", fn := fun _ => fun
  | [d1, d2] => { results := [.lit (.bool true)], args := [d1, d2] }
  | _ => none }
def crcOwnRow : OpenClaim := { program := "ytpccbiopljmnlaadoor", sum := "c38b4331234fc1990ee8d2c056ce622b134d76f5588bcd8da1f6b68db4212974", func := "postrider/postriderlaw05.CrcOwn", spec := "crcOwn", inPlace := ["internal/reflectlite.TypeOf"], unfollowed := true, recurses := true, named := ["postrider/crc.errArg", "postrider/crc.sumKinds", "postrider/nums.errArg", "postrider/nums.errNum", "postrider/crc.errTable"], apart := false, laid := [("postrider/nums.errArg", laid_postrider_nums_errArg), ("postrider/nums.errNum", laid_postrider_nums_errNum), ("postrider/crc.errArg", laid_postrider_crc_errArg), ("postrider/crc.errTable", laid_postrider_crc_errTable), ("postrider/crc.sumKinds", laid_postrider_crc_sumKinds)] }
def CrcOwnSaid : Prop := crcOwnRow.holds Tryd.pinned (OpenSpec.ofChange crcOwnSpec)

/-- ITS FALSE NEIGHBOUR: 'it returns false'. Refute it at one input. -/
def crcOwnWrong : ChangeSpec := { name := "crcOwn", fn := fun _ => fun
  | [d1, d2] => { results := [.lit (.bool false)], args := [d1, d2] }
  | _ => none }
def CrcOwnWrongFalsely : Prop := crcOwnRow.holds Tryd.pinned (OpenSpec.ofChange crcOwnWrong)

/-- 'postriderlaw05.CrcBursts': WHATEVER THE INPUT: true; the input reads as it did. -/
def crcBurstsSpec : ChangeSpec := { name := "crcBursts", fn := fun _ => fun
  | [d1, d2, d3, d4, d5, d6, d7] => { results := [.lit (.bool true)], args := [d1, d2, d3, d4, d5, d6, d7] }
  | _ => none }
def crcBurstsRow : OpenClaim := { program := "ytpccbiopljmnlaadoor", sum := "c38b4331234fc1990ee8d2c056ce622b134d76f5588bcd8da1f6b68db4212974", func := "postrider/postriderlaw05.CrcBursts", spec := "crcBursts", inPlace := ["internal/reflectlite.TypeOf"], unfollowed := true, recurses := true, named := ["postrider/crc.errArg", "postrider/crc.sumKinds", "postrider/nums.errArg", "postrider/nums.errNum", "postrider/crc.errTable"], apart := false, laid := [("postrider/nums.errArg", laid_postrider_nums_errArg), ("postrider/nums.errNum", laid_postrider_nums_errNum), ("postrider/crc.errArg", laid_postrider_crc_errArg), ("postrider/crc.errTable", laid_postrider_crc_errTable), ("postrider/crc.sumKinds", laid_postrider_crc_sumKinds)] }
def CrcBurstsSaid : Prop := crcBurstsRow.holds Tryd.pinned (OpenSpec.ofChange crcBurstsSpec)

/-- ITS FALSE NEIGHBOUR: 'it returns false'. Refute it at one input. -/
def crcBurstsWrong : ChangeSpec := { name := "crcBursts", fn := fun _ => fun
  | [d1, d2, d3, d4, d5, d6, d7] => { results := [.lit (.bool false)], args := [d1, d2, d3, d4, d5, d6, d7] }
  | _ => none }
def CrcBurstsWrongFalsely : Prop := crcBurstsRow.holds Tryd.pinned (OpenSpec.ofChange crcBurstsWrong)

/-- 'postriderlaw05.CrcMixed': WHATEVER THE INPUT: true; the input reads as it did. -/
def crcMixedSpec : ChangeSpec := { name := "crcMixed", fn := fun _ => fun
  | [d1, d2, d3, d4] => { results := [.lit (.bool true)], args := [d1, d2, d3, d4] }
  | _ => none }
def crcMixedRow : OpenClaim := { program := "ytpccbiopljmnlaadoor", sum := "c38b4331234fc1990ee8d2c056ce622b134d76f5588bcd8da1f6b68db4212974", func := "postrider/postriderlaw05.CrcMixed", spec := "crcMixed", inPlace := ["internal/reflectlite.TypeOf"], unfollowed := true, recurses := true, named := ["postrider/crc.errArg", "postrider/crc.sumKinds", "postrider/nums.errArg", "postrider/nums.errNum", "postrider/crc.errTable"], apart := false, laid := [("postrider/nums.errArg", laid_postrider_nums_errArg), ("postrider/nums.errNum", laid_postrider_nums_errNum), ("postrider/crc.errArg", laid_postrider_crc_errArg), ("postrider/crc.errTable", laid_postrider_crc_errTable), ("postrider/crc.sumKinds", laid_postrider_crc_sumKinds)] }
def CrcMixedSaid : Prop := crcMixedRow.holds Tryd.pinned (OpenSpec.ofChange crcMixedSpec)

/-- ITS FALSE NEIGHBOUR: 'it returns false'. Refute it at one input. -/
def crcMixedWrong : ChangeSpec := { name := "crcMixed", fn := fun _ => fun
  | [d1, d2, d3, d4] => { results := [.lit (.bool false)], args := [d1, d2, d3, d4] }
  | _ => none }
def CrcMixedWrongFalsely : Prop := crcMixedRow.holds Tryd.pinned (OpenSpec.ofChange crcMixedWrong)

/-- 'postriderlaw05.CrcTables': WHATEVER THE INPUT: true; the input reads as it did. -/
def crcTablesSpec : ChangeSpec := { name := "crcTables", fn := fun _ => fun
  | [d1, d2, d3] => { results := [.lit (.bool true)], args := [d1, d2, d3] }
  | _ => none }
def crcTablesRow : OpenClaim := { program := "ytpccbiopljmnlaadoor", sum := "c38b4331234fc1990ee8d2c056ce622b134d76f5588bcd8da1f6b68db4212974", func := "postrider/postriderlaw05.CrcTables", spec := "crcTables", inPlace := ["internal/reflectlite.TypeOf"], unfollowed := true, recurses := true, named := ["postrider/crc.errArg", "postrider/crc.sumKinds", "postrider/nums.errArg", "postrider/nums.errNum", "postrider/crc.errTable"], apart := false, laid := [("postrider/nums.errArg", laid_postrider_nums_errArg), ("postrider/nums.errNum", laid_postrider_nums_errNum), ("postrider/crc.errArg", laid_postrider_crc_errArg), ("postrider/crc.errTable", laid_postrider_crc_errTable), ("postrider/crc.sumKinds", laid_postrider_crc_sumKinds)] }
def CrcTablesSaid : Prop := crcTablesRow.holds Tryd.pinned (OpenSpec.ofChange crcTablesSpec)

/-- ITS FALSE NEIGHBOUR: 'it returns false'. Refute it at one input. -/
def crcTablesWrong : ChangeSpec := { name := "crcTables", fn := fun _ => fun
  | [d1, d2, d3] => { results := [.lit (.bool false)], args := [d1, d2, d3] }
  | _ => none }
def CrcTablesWrongFalsely : Prop := crcTablesRow.holds Tryd.pinned (OpenSpec.ofChange crcTablesWrong)

/-- 'postriderlaw05.CrcTurns': WHATEVER THE INPUT: true; the input reads as it did. -/
def crcTurnsSpec : ChangeSpec := { name := "crcTurns", fn := fun _ => fun
  | [d1, d2, d3] => { results := [.lit (.bool true)], args := [d1, d2, d3] }
  | _ => none }
def crcTurnsRow : OpenClaim := { program := "ytpccbiopljmnlaadoor", sum := "c38b4331234fc1990ee8d2c056ce622b134d76f5588bcd8da1f6b68db4212974", func := "postrider/postriderlaw05.CrcTurns", spec := "crcTurns", inPlace := ["internal/reflectlite.TypeOf"], unfollowed := true, recurses := true, named := ["postrider/crc.errArg", "postrider/crc.sumKinds", "postrider/nums.errArg", "postrider/nums.errNum", "postrider/crc.errTable"], apart := false, laid := [("postrider/nums.errArg", laid_postrider_nums_errArg), ("postrider/nums.errNum", laid_postrider_nums_errNum), ("postrider/crc.errArg", laid_postrider_crc_errArg), ("postrider/crc.errTable", laid_postrider_crc_errTable), ("postrider/crc.sumKinds", laid_postrider_crc_sumKinds)] }
def CrcTurnsSaid : Prop := crcTurnsRow.holds Tryd.pinned (OpenSpec.ofChange crcTurnsSpec)

/-- ITS FALSE NEIGHBOUR: 'it returns false'. Refute it at one input. -/
def crcTurnsWrong : ChangeSpec := { name := "crcTurns", fn := fun _ => fun
  | [d1, d2, d3] => { results := [.lit (.bool false)], args := [d1, d2, d3] }
  | _ => none }
def CrcTurnsWrongFalsely : Prop := crcTurnsRow.holds Tryd.pinned (OpenSpec.ofChange crcTurnsWrong)

/- THE SECOND FORM. 'bulk': how many values and letters a reading holds, each counted each time it is reached (what is shared counts as often as it is met; a slice's spare places count too). A statement '..UptoSaid' is the law's where the arguments, and the package variables that the reading takes, are together of bulk at most 1048576: NARROWER than '..Said'. Prove '..Said' where nothing that the law and all that it calls make is longer than what came in: it says more and counts as full. Else prove '..UptoSaid'. A law counts once. -/
mutual
def uptoBulk {H : Type} : DataW H → Nat
  | .lit (.string bytes) => bytes.length + 1
  | .lit _ => 1
  | .nil => 1
  | .ptr d => uptoBulk d + 1
  | .slice elems spare => uptoBulkAll elems + uptoBulkAll spare + 1
  | .agg parts => uptoBulkAll parts + 1
  | .iface _ d => uptoBulk d + 1
  | .map entries => uptoBulkEntries entries + 1
  | .held _ => 1
def uptoBulkAll {H : Type} : List (DataW H) → Nat
  | [] => 0
  | d :: r => uptoBulk d + uptoBulkAll r
def uptoBulkEntries {H : Type} : List (Lit × DataW H) → Nat
  | [] => 0
  | x :: r => uptoBulkEntry x + uptoBulkEntries r
def uptoBulkEntry {H : Type} : Lit × DataW H → Nat
  | (.string bytes, d) => bytes.length + uptoBulk d + 1
  | (_, d) => uptoBulk d + 1
 end
def uptoSmall : (H : Type) → List (DataW H) → Bool := fun _ ds => decide (uptoBulkAll ds ≤ 1048576)
def OpenSpec.upto (s : _root_.Go.ChangeSpec) : _root_.Go.OpenSpec := { _root_.Go.OpenSpec.ofChange s with cond := some uptoSmall }

/-- 'postriderlaw05.CrcSums', WHERE WHAT IT READS IS OF BULK AT MOST 1048576: true; the input reads as it did. -/
def crcSumsUptoRow : OpenClaim := { program := "ytpccbiopljmnlaadoor", sum := "c38b4331234fc1990ee8d2c056ce622b134d76f5588bcd8da1f6b68db4212974", func := "postrider/postriderlaw05.CrcSums", spec := "crcSums", inPlace := ["internal/reflectlite.TypeOf"], unfollowed := true, recurses := true, named := ["postrider/crc.errArg", "postrider/crc.sumKinds", "postrider/nums.errArg", "postrider/nums.errNum", "postrider/crc.errTable"], apart := false, laid := [("postrider/nums.errArg", laid_postrider_nums_errArg), ("postrider/nums.errNum", laid_postrider_nums_errNum), ("postrider/crc.errArg", laid_postrider_crc_errArg), ("postrider/crc.errTable", laid_postrider_crc_errTable), ("postrider/crc.sumKinds", laid_postrider_crc_sumKinds)], narrowed := true }
def CrcSumsUptoSaid : Prop := crcSumsUptoRow.holds Tryd.pinned (OpenSpec.upto crcSumsSpec)

/-- 'postriderlaw05.CrcOwn', WHERE WHAT IT READS IS OF BULK AT MOST 1048576: true; the input reads as it did. -/
def crcOwnUptoRow : OpenClaim := { program := "ytpccbiopljmnlaadoor", sum := "c38b4331234fc1990ee8d2c056ce622b134d76f5588bcd8da1f6b68db4212974", func := "postrider/postriderlaw05.CrcOwn", spec := "crcOwn", inPlace := ["internal/reflectlite.TypeOf"], unfollowed := true, recurses := true, named := ["postrider/crc.errArg", "postrider/crc.sumKinds", "postrider/nums.errArg", "postrider/nums.errNum", "postrider/crc.errTable"], apart := false, laid := [("postrider/nums.errArg", laid_postrider_nums_errArg), ("postrider/nums.errNum", laid_postrider_nums_errNum), ("postrider/crc.errArg", laid_postrider_crc_errArg), ("postrider/crc.errTable", laid_postrider_crc_errTable), ("postrider/crc.sumKinds", laid_postrider_crc_sumKinds)], narrowed := true }
def CrcOwnUptoSaid : Prop := crcOwnUptoRow.holds Tryd.pinned (OpenSpec.upto crcOwnSpec)

/-- 'postriderlaw05.CrcBursts', WHERE WHAT IT READS IS OF BULK AT MOST 1048576: true; the input reads as it did. -/
def crcBurstsUptoRow : OpenClaim := { program := "ytpccbiopljmnlaadoor", sum := "c38b4331234fc1990ee8d2c056ce622b134d76f5588bcd8da1f6b68db4212974", func := "postrider/postriderlaw05.CrcBursts", spec := "crcBursts", inPlace := ["internal/reflectlite.TypeOf"], unfollowed := true, recurses := true, named := ["postrider/crc.errArg", "postrider/crc.sumKinds", "postrider/nums.errArg", "postrider/nums.errNum", "postrider/crc.errTable"], apart := false, laid := [("postrider/nums.errArg", laid_postrider_nums_errArg), ("postrider/nums.errNum", laid_postrider_nums_errNum), ("postrider/crc.errArg", laid_postrider_crc_errArg), ("postrider/crc.errTable", laid_postrider_crc_errTable), ("postrider/crc.sumKinds", laid_postrider_crc_sumKinds)], narrowed := true }
def CrcBurstsUptoSaid : Prop := crcBurstsUptoRow.holds Tryd.pinned (OpenSpec.upto crcBurstsSpec)

/-- 'postriderlaw05.CrcMixed', WHERE WHAT IT READS IS OF BULK AT MOST 1048576: true; the input reads as it did. -/
def crcMixedUptoRow : OpenClaim := { program := "ytpccbiopljmnlaadoor", sum := "c38b4331234fc1990ee8d2c056ce622b134d76f5588bcd8da1f6b68db4212974", func := "postrider/postriderlaw05.CrcMixed", spec := "crcMixed", inPlace := ["internal/reflectlite.TypeOf"], unfollowed := true, recurses := true, named := ["postrider/crc.errArg", "postrider/crc.sumKinds", "postrider/nums.errArg", "postrider/nums.errNum", "postrider/crc.errTable"], apart := false, laid := [("postrider/nums.errArg", laid_postrider_nums_errArg), ("postrider/nums.errNum", laid_postrider_nums_errNum), ("postrider/crc.errArg", laid_postrider_crc_errArg), ("postrider/crc.errTable", laid_postrider_crc_errTable), ("postrider/crc.sumKinds", laid_postrider_crc_sumKinds)], narrowed := true }
def CrcMixedUptoSaid : Prop := crcMixedUptoRow.holds Tryd.pinned (OpenSpec.upto crcMixedSpec)

/-- 'postriderlaw05.CrcTables', WHERE WHAT IT READS IS OF BULK AT MOST 1048576: true; the input reads as it did. -/
def crcTablesUptoRow : OpenClaim := { program := "ytpccbiopljmnlaadoor", sum := "c38b4331234fc1990ee8d2c056ce622b134d76f5588bcd8da1f6b68db4212974", func := "postrider/postriderlaw05.CrcTables", spec := "crcTables", inPlace := ["internal/reflectlite.TypeOf"], unfollowed := true, recurses := true, named := ["postrider/crc.errArg", "postrider/crc.sumKinds", "postrider/nums.errArg", "postrider/nums.errNum", "postrider/crc.errTable"], apart := false, laid := [("postrider/nums.errArg", laid_postrider_nums_errArg), ("postrider/nums.errNum", laid_postrider_nums_errNum), ("postrider/crc.errArg", laid_postrider_crc_errArg), ("postrider/crc.errTable", laid_postrider_crc_errTable), ("postrider/crc.sumKinds", laid_postrider_crc_sumKinds)], narrowed := true }
def CrcTablesUptoSaid : Prop := crcTablesUptoRow.holds Tryd.pinned (OpenSpec.upto crcTablesSpec)

/-- 'postriderlaw05.CrcTurns', WHERE WHAT IT READS IS OF BULK AT MOST 1048576: true; the input reads as it did. -/
def crcTurnsUptoRow : OpenClaim := { program := "ytpccbiopljmnlaadoor", sum := "c38b4331234fc1990ee8d2c056ce622b134d76f5588bcd8da1f6b68db4212974", func := "postrider/postriderlaw05.CrcTurns", spec := "crcTurns", inPlace := ["internal/reflectlite.TypeOf"], unfollowed := true, recurses := true, named := ["postrider/crc.errArg", "postrider/crc.sumKinds", "postrider/nums.errArg", "postrider/nums.errNum", "postrider/crc.errTable"], apart := false, laid := [("postrider/nums.errArg", laid_postrider_nums_errArg), ("postrider/nums.errNum", laid_postrider_nums_errNum), ("postrider/crc.errArg", laid_postrider_crc_errArg), ("postrider/crc.errTable", laid_postrider_crc_errTable), ("postrider/crc.sumKinds", laid_postrider_crc_sumKinds)], narrowed := true }
def CrcTurnsUptoSaid : Prop := crcTurnsUptoRow.holds Tryd.pinned (OpenSpec.upto crcTurnsSpec)

end Rows
end Go.Proofs.YtpccbiopljmnlaaDoor
