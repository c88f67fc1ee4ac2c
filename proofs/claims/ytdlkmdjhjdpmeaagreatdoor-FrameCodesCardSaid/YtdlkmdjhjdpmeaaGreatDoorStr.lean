/- Pieces of texts, texts put together, and bytes of texts: what the operations answer. -/
import Derived.Test.YtdlkmdjhjdpmeaaGreatDoorChecked
import Derived.WalkKit
import Derived.Laws.IdiomStrings
set_option linter.unusedVariables false
set_option linter.unusedSimpArgs false
namespace Go.Proofs.YtdlkmdjhjdpmeaaGreatDoor
open Go.RowKit

theorem sl_to (q : ByteArray) (j : Nat) (hj : j ≤ q.size) (w : World) : (Instr.slice 9 (.string q) none (some (.int .i64 (j : Int))) none).run Tryz.prog w = .ok (.string (q.extract 0 j)) w := by
  have hj' : 0 ≤ (j : Int) ∧ (j : Int) ≤ (q.size : Int) := by omega
  simp [Instr.slice, Instr.sliceBounds, Instr.sliceBound, asIntOf, run_underlying Tryz.underlying9, hj']
  intro hc
  omega
theorem sl_from (q : ByteArray) (x : Int) (j : Nat) (hx : x = j) (hj : j ≤ q.size) (w : World) : (Instr.slice 9 (.string q) (some (.int .i64 x)) none none).run Tryz.prog w = .ok (.string (q.extract j q.size)) w := by
  subst hx
  have hj' : 0 ≤ (j : Int) ∧ (j : Int) ≤ (q.size : Int) := by omega
  simp [Instr.slice, Instr.sliceBounds, Instr.sliceBound, asIntOf, run_underlying Tryz.underlying9, hj']
  intro hc
  omega
theorem sl_mid (q : ByteArray) (x y : Int) (i j : Nat) (hx : x = i) (hy : y = j) (hij : i ≤ j) (hj : j ≤ q.size) (w : World) : (Instr.slice 9 (.string q) (some (.int .i64 x)) (some (.int .i64 y)) none).run Tryz.prog w = .ok (.string (q.extract i j)) w := by
  subst hx
  subst hy
  have h := run_slice_string (P := Tryz.prog) (w := w) 9 q .i64 .i64 (i : Int) (j : Int) Tryz.underlying9 (by omega) (by omega) (by omega)
  simpa using h
theorem ix_str (q : ByteArray) (x : Int) (i : Nat) (hx : x = i) (hi : i < q.size) (w : World) : (Instr.index 9 (.string q) (.int .i64 x)).run Tryz.prog w = .ok (.int .u8 ((q[i].toNat : Nat) : Int)) w := by
  subst hx
  go_simp
theorem cat_str (a b : ByteArray) (h : a.size + b.size ≤ 1000000) (w : World) : (Op.stringOp .add a b).run Tryz.prog w = .ok (.string (a ++ b)) w := run_string_add_sum w a b (by omega)
end Go.Proofs.YtdlkmdjhjdpmeaaGreatDoor
