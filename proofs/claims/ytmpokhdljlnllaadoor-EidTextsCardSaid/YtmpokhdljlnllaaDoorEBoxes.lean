/- Boxes of names: what stays when others are laid or written. -/
import Derived.Test.YtmpokhdljlnllaaDoorEShown
set_option linter.unusedVariables false
set_option linter.unusedSimpArgs false
namespace Go.Proofs.YtmpokhdljlnllaaDoor
open Go.RowKit

theorem frozen_al {X : World} {p : Addr} {v : Value} {o : Obj} (e : X.cell? p = some v) (f : X.frozen? p = false) : (X.alloc o).frozen? p = false :=
  ((Below.refl X.heap.size X).alloc (Nat.le_refl _) o).frozen (World.block_lt_of_cell? _ _ e) |>.trans f
theorem cell_set5 {W : World} {R B j : Nat} {v0 v1 v2 v3 v4 v : Value} (h : B ≠ R) (c : W.cell? ⟨B, j, none⟩ = some v) : (((((W.setCell ⟨R, 0, none⟩ v0).setCell ⟨R, 1, none⟩ v1).setCell ⟨R, 2, none⟩ v2).setCell ⟨R, 3, none⟩ v3).setCell ⟨R, 4, none⟩ v4).cell? ⟨B, j, none⟩ = some v := by
  go_simp
theorem frozen_set5 {W : World} {R B j : Nat} {v0 v1 v2 v3 v4 : Value} (c : W.frozen? ⟨B, j, none⟩ = false) : (((((W.setCell ⟨R, 0, none⟩ v0).setCell ⟨R, 1, none⟩ v1).setCell ⟨R, 2, none⟩ v2).setCell ⟨R, 3, none⟩ v3).setCell ⟨R, 4, none⟩ v4).frozen? ⟨B, j, none⟩ = false := by
  go_simp
theorem cell_set1 {W : World} {R B i j : Nat} {v0 v : Value} (h : B ≠ R) (c : W.cell? ⟨B, j, none⟩ = some v) : (W.setCell ⟨R, i, none⟩ v0).cell? ⟨B, j, none⟩ = some v := by
  go_simp
end Go.Proofs.YtmpokhdljlnllaaDoor
