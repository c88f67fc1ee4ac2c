/- An item that came in. -/
import Derived.Test.YtmbmolgkccjedaaGreatDoorReadT
import Derived.Test.YtmbmolgkccjedaaGreatDoorIOpen
set_option linter.unusedVariables false
set_option linter.unusedSimpArgs false
namespace Go.Proofs.YtmbmolgkccjedaaGreatDoor
open Go.ChangeShapes Go.WideShapes Go.ChangeAt Go.WideMaps Go.WideElems Go.RowKit

theorem cellsIntI : Tryz.prog.cellsOf 3 = 1 := by kernel_rfl
theorem cellsStrI : Tryz.prog.cellsOf 9 = 1 := by kernel_rfl
theorem cellsL : Tryz.prog.cellsOf 24 = 1 := by kernel_rfl
theorem cellsI : Tryz.prog.cellsOf 26 = 4 := by kernel_rfl
set_option maxRecDepth 100000 in
/-- An item that came in, as it reads. -/
theorem open_itemT {H : Type} {enc : TypeId × Value → H} {W : World} {r : Reach} {b0 : Nat} {v : Value} {d : DataW H} {ps : List MemPlace} (hval : Value.okWide Tryz.prog W r b0 26 v) (hd : DataW.Trod enc Tryz.prog W 0 (fun _ => true) true 26 v d ps) :
    ∃ x : Itm, ItV (fun _ => True) W x v ∧ ∀ y ∈ ps, y.block < W.heap.size := by
  obtain ⟨fuel, hf⟩ := hd
  obtain ⟨it, c0, c1, c2, c3, hcs, hit, hp⟩ := item_of_trod Tryz.underlying26 rfl rfl rfl rfl rfl rfl rfl rfl Tryz.underlying3 Tryz.underlying9 Tryz.underlying24 cellsIntI cellsStrI cellsL cellsI fuel _ _ hf
  refine ⟨it, ?_, hp⟩
  have hv : v = .agg #[c0, c1, c2, c3] := by
    obtain ⟨cs, rfl, _⟩ := okWide_struct Tryz.underlying26 hval
    have e : cs.toList = [c0, c1, c2, c3] := hcs
    rw [show cs = #[c0, c1, c2, c3] from Array.ext' e]
  rw [hv]
  exact hit

end Go.Proofs.YtmbmolgkccjedaaGreatDoor
