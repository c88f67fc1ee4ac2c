/- A jump forward to a label behind all else of its scope; three cells written anew. -/
import Derived.Test.YtdlkmdjhjdpmeaaGreatDoorChecked
import Derived.WalkKit
import Derived.ScopeJumps
import Derived.WalkMore
set_option linter.unusedVariables false
set_option linter.unusedSimpArgs false
namespace Go.Proofs.YtdlkmdjhjdpmeaaGreatDoor
open Go.RowKit

/-- A scope with one label behind all its jumps. -/
theorem wp_scope_fwd {P : Program} {a : Act} {w : World} {Q : Exit → Act → World → Prop} {c rest : Code} (l : Nat) (hf : findLabel c l = some rest)
    (h : c.wp P (Exit.jump l (fun a w => rest.wp P (Exit.noGoto Q) a w) Q) a w) : (Code.scope c).wp P Q a w :=
  wp_scope_jumps l _ (fun _ _ => 0) hf h (fun a w hJ => wp_mono hJ (fun e a w hq => by cases e <;> first | exact hq | exact hq.elim))

theorem set3_cells {B : Nat} {a b c x y z : Value} {W : World} (k0 : W.cell? ⟨B, 0, none⟩ = some a) (k1 : W.cell? ⟨B, 1, none⟩ = some b) (k2 : W.cell? ⟨B, 2, none⟩ = some c) :
    (((W.setCell ⟨B, 0, none⟩ x).setCell ⟨B, 1, none⟩ y).setCell ⟨B, 2, none⟩ z).cell? ⟨B, 0, none⟩ = some x ∧ (((W.setCell ⟨B, 0, none⟩ x).setCell ⟨B, 1, none⟩ y).setCell ⟨B, 2, none⟩ z).cell? ⟨B, 1, none⟩ = some y ∧ (((W.setCell ⟨B, 0, none⟩ x).setCell ⟨B, 1, none⟩ y).setCell ⟨B, 2, none⟩ z).cell? ⟨B, 2, none⟩ = some z := by
  refine ⟨?_, ?_, ?_⟩
  · simp [go_sem, k0]
  · simp [go_sem, k1]
  · simp [go_sem, k2]

theorem set5_cells {B : Nat} {a b c d e x y z u v : Value} {W : World} (k0 : W.cell? ⟨B, 0, none⟩ = some a) (k1 : W.cell? ⟨B, 1, none⟩ = some b) (k2 : W.cell? ⟨B, 2, none⟩ = some c) (k3 : W.cell? ⟨B, 3, none⟩ = some d) (k4 : W.cell? ⟨B, 4, none⟩ = some e) :
    (((((W.setCell ⟨B, 0, none⟩ x).setCell ⟨B, 1, none⟩ y).setCell ⟨B, 2, none⟩ z).setCell ⟨B, 3, none⟩ u).setCell ⟨B, 4, none⟩ v).cell? ⟨B, 0, none⟩ = some x ∧ (((((W.setCell ⟨B, 0, none⟩ x).setCell ⟨B, 1, none⟩ y).setCell ⟨B, 2, none⟩ z).setCell ⟨B, 3, none⟩ u).setCell ⟨B, 4, none⟩ v).cell? ⟨B, 1, none⟩ = some y ∧ (((((W.setCell ⟨B, 0, none⟩ x).setCell ⟨B, 1, none⟩ y).setCell ⟨B, 2, none⟩ z).setCell ⟨B, 3, none⟩ u).setCell ⟨B, 4, none⟩ v).cell? ⟨B, 2, none⟩ = some z ∧ (((((W.setCell ⟨B, 0, none⟩ x).setCell ⟨B, 1, none⟩ y).setCell ⟨B, 2, none⟩ z).setCell ⟨B, 3, none⟩ u).setCell ⟨B, 4, none⟩ v).cell? ⟨B, 3, none⟩ = some u ∧ (((((W.setCell ⟨B, 0, none⟩ x).setCell ⟨B, 1, none⟩ y).setCell ⟨B, 2, none⟩ z).setCell ⟨B, 3, none⟩ u).setCell ⟨B, 4, none⟩ v).cell? ⟨B, 4, none⟩ = some v := by
  refine ⟨?_, ?_, ?_, ?_, ?_⟩
  · simp [go_sem, k0]
  · simp [go_sem, k1]
  · simp [go_sem, k2]
  · simp [go_sem, k3]
  · simp [go_sem, k4]

theorem set_far {B C o i : Nat} {x v : Value} {W : World} (h : W.cell? ⟨B, o, none⟩ = some x) (hne : B ≠ C := by omega) : (W.setCell ⟨C, i, none⟩ v).cell? ⟨B, o, none⟩ = some x := by
  rw [World.cell?_setCell_other _ _ _ _ (fun e => hne (congrArg Addr.block e).symm)]
  exact h
theorem jump_ret {l : Nat} {J : Act → World → Prop} {Q : Exit → Act → World → Prop} {a : Act} {w : World} : Exit.jump l J Q .ret a w = Q .ret a w := rfl
end Go.Proofs.YtdlkmdjhjdpmeaaGreatDoor
