/- A name that came in. -/
import Derived.Test.YtmbmolgkccjedaaGreatDoorReadT
import Derived.Test.YtmbmolgkccjedaaGreatDoorM9
set_option linter.unusedVariables false
set_option linter.unusedSimpArgs false
namespace Go.Proofs.YtmbmolgkccjedaaGreatDoor
open Go.ChangeShapes Go.WideShapes Go.ChangeAt Go.WideMaps Go.WideElems Go.RowKit

theorem cellsIntO : Tryz.prog.cellsOf 3 = 1 := by kernel_rfl
theorem cellsStrO : Tryz.prog.cellsOf 9 = 1 := by kernel_rfl
theorem cellsEid : Tryz.prog.cellsOf 23 = 5 := by kernel_rfl
set_option maxRecDepth 100000 in
/-- A name that came in. -/
theorem open_eidT {H : Type} {enc : TypeId × Value → H} {W : World} {r : Reach} {b0 : Nat} {v : Value} {d : DataW H} {ps : List MemPlace} (hval : Value.okWide Tryz.prog W r b0 23 v) (hd : DataW.Trod enc Tryz.prog W 0 (fun _ => true) true 23 v d ps) :
    ∃ (k : Int) (nd sv : ByteArray) (a b : Int), v = nmV k nd sv a b ∧ ps = [] ∧ I64 a ∧ I64 b ∧ nd.size ≤ maxLen ∧ sv.size ≤ maxLen := by
  obtain ⟨fuel, hf⟩ := hd
  obtain ⟨cs, rfl, hsz⟩ := okWide_struct Tryz.underlying23 hval
  rw [cellsEid] at hsz
  obtain ⟨k, nd, sv, a, b, e, hp, wa, wb, h1, h2⟩ := eid_of_trod (cs := cs.toList) Tryz.underlying23 rfl rfl rfl rfl rfl rfl rfl rfl rfl rfl Tryz.underlying3 Tryz.underlying9 cellsIntO cellsStrO (Array.length_toList.trans hsz) hf
  refine ⟨k, nd, sv, a, b, ?_, hp, bounds_i64 wa, bounds_i64 wb, h1, h2⟩
  rw [show cs = #[.int .i64 k, .string nd, .string sv, .int .i64 a, .int .i64 b] from Array.ext' e]
  rfl

end Go.Proofs.YtmbmolgkccjedaaGreatDoor
