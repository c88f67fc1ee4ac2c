/- Contract of broken of package head, of two rules and of three: what the first of them that does not hold has. -/
import Derived.Test.YtljfgchmogdljaaGreatDoorHShort
import Derived.LoopTactic
set_option linter.unusedVariables false
set_option linter.unusedSimpArgs false
namespace Go.Proofs.YtljfgchmogdljaaGreatDoor
open Go.RowKit

/-- The value of a sentinel. -/
abbrev sentV (a : Addr) : Value := .iface 192 (.pointer (some a))

/-- What the first of the rules that does not hold has. -/
def brk2 (p0 p1 : Bool) (e0 e1 : Addr) : Value := (if p0 = false then sentV e0 else (if p1 = false then sentV e1 else .nilIface))

set_option maxRecDepth 100000 in
set_option maxHeartbeats 2000000 in
theorem broken2_any (R : Nat) (p0 p1 : Bool) (e0 e1 : Addr) (w : World) (c0 : w.cell? ⟨R, 0, none⟩ = some (.bool p0)) (d0 : w.cell? ⟨R, 1, none⟩ = some (sentV e0)) (c1 : w.cell? ⟨R, 2, none⟩ = some (.bool p1)) (d1 : w.cell? ⟨R, 3, none⟩ = some (sentV e1)) :
    Calls Tryz.prog 57 #[.slice (some ⟨R, 0, none⟩) 2 2] w fun e w' => e = .returned (brk2 p0 p1 e0 e1) ∧ Below w.heap.size w w' := by
  have hR := World.block_lt_of_cell? _ _ c0
  simp only at hR
  go_enter Tryz.func57, Tryz.ntmps57
  go_wp2
  go_loopw [7] (fun i wr => ∃ k : Nat, k ≤ 2 ∧ i = .int .i64 k ∧ ((0 < k → p0 = true) ∧ (1 < k → p1 = true)) ∧ Below w.heap.size w wr) (fun i _ => 2 - (intOf i).toNat)
  case atStart => exact ⟨0, Nat.zero_le _, rfl, ⟨fun h => by omega, fun h => by omega⟩, Below.refl _ _⟩
  case round =>
    obtain ⟨k, hk, rfl, ⟨q0, q1⟩, hB⟩ := hrel
    replace c0 := (hB.cell (p := ⟨R, 0, none⟩) hR).trans c0
    replace d0 := (hB.cell (p := ⟨R, 1, none⟩) hR).trans d0
    replace c1 := (hB.cell (p := ⟨R, 2, none⟩) hR).trans c1
    replace d1 := (hB.cell (p := ⟨R, 3, none⟩) hR).trans d1
    have hk' : k = 0 ∨ k = 1 ∨ k = 2 := by omega
    clear hk
    rcases hk' with rfl | rfl | rfl
    · clear q0 q1
      cases p0 with
      | false =>
        go_wp2
        go_ret
        exact ⟨by simp [brk2], hB.alloc hB.size _⟩
      | true =>
        go_wp2
        go_roundw
        case rel => exact ⟨1, by omega, rfl, ⟨fun _ => by trivial, fun h => by omega⟩, hB.alloc hB.size _⟩
        case measure => simp [intOf]
    · have t0 := q0 (by omega)
      clear q0 q1
      cases p1 with
      | false =>
        go_wp2
        go_ret
        exact ⟨by simp [brk2, t0], hB.alloc hB.size _⟩
      | true =>
        go_wp2
        go_roundw
        case rel => exact ⟨2, by omega, rfl, ⟨fun _ => t0, fun _ => by trivial⟩, hB.alloc hB.size _⟩
        case measure => simp [intOf]
    · have t0 := q0 (by omega)
      have t1 := q1 (by omega)
      clear q0 q1
      go_wp2
      go_ret
      exact ⟨by simp [brk2, t0, t1], hB⟩

/-- What the first of the rules that does not hold has. -/
def brk3 (p0 p1 p2 : Bool) (e0 e1 e2 : Addr) : Value := (if p0 = false then sentV e0 else (if p1 = false then sentV e1 else (if p2 = false then sentV e2 else .nilIface)))

set_option maxRecDepth 100000 in
set_option maxHeartbeats 2000000 in
theorem broken3_any (R : Nat) (p0 p1 p2 : Bool) (e0 e1 e2 : Addr) (w : World) (c0 : w.cell? ⟨R, 0, none⟩ = some (.bool p0)) (d0 : w.cell? ⟨R, 1, none⟩ = some (sentV e0)) (c1 : w.cell? ⟨R, 2, none⟩ = some (.bool p1)) (d1 : w.cell? ⟨R, 3, none⟩ = some (sentV e1)) (c2 : w.cell? ⟨R, 4, none⟩ = some (.bool p2)) (d2 : w.cell? ⟨R, 5, none⟩ = some (sentV e2)) :
    Calls Tryz.prog 57 #[.slice (some ⟨R, 0, none⟩) 3 3] w fun e w' => e = .returned (brk3 p0 p1 p2 e0 e1 e2) ∧ Below w.heap.size w w' := by
  have hR := World.block_lt_of_cell? _ _ c0
  simp only at hR
  go_enter Tryz.func57, Tryz.ntmps57
  go_wp2
  go_loopw [7] (fun i wr => ∃ k : Nat, k ≤ 3 ∧ i = .int .i64 k ∧ ((0 < k → p0 = true) ∧ (1 < k → p1 = true) ∧ (2 < k → p2 = true)) ∧ Below w.heap.size w wr) (fun i _ => 3 - (intOf i).toNat)
  case atStart => exact ⟨0, Nat.zero_le _, rfl, ⟨fun h => by omega, fun h => by omega, fun h => by omega⟩, Below.refl _ _⟩
  case round =>
    obtain ⟨k, hk, rfl, ⟨q0, q1, q2⟩, hB⟩ := hrel
    replace c0 := (hB.cell (p := ⟨R, 0, none⟩) hR).trans c0
    replace d0 := (hB.cell (p := ⟨R, 1, none⟩) hR).trans d0
    replace c1 := (hB.cell (p := ⟨R, 2, none⟩) hR).trans c1
    replace d1 := (hB.cell (p := ⟨R, 3, none⟩) hR).trans d1
    replace c2 := (hB.cell (p := ⟨R, 4, none⟩) hR).trans c2
    replace d2 := (hB.cell (p := ⟨R, 5, none⟩) hR).trans d2
    have hk' : k = 0 ∨ k = 1 ∨ k = 2 ∨ k = 3 := by omega
    clear hk
    rcases hk' with rfl | rfl | rfl | rfl
    · clear q0 q1 q2
      cases p0 with
      | false =>
        go_wp2
        go_ret
        exact ⟨by simp [brk3], hB.alloc hB.size _⟩
      | true =>
        go_wp2
        go_roundw
        case rel => exact ⟨1, by omega, rfl, ⟨fun _ => by trivial, fun h => by omega, fun h => by omega⟩, hB.alloc hB.size _⟩
        case measure => simp [intOf]
    · have t0 := q0 (by omega)
      clear q0 q1 q2
      cases p1 with
      | false =>
        go_wp2
        go_ret
        exact ⟨by simp [brk3, t0], hB.alloc hB.size _⟩
      | true =>
        go_wp2
        go_roundw
        case rel => exact ⟨2, by omega, rfl, ⟨fun _ => t0, fun _ => by trivial, fun h => by omega⟩, hB.alloc hB.size _⟩
        case measure => simp [intOf]
    · have t0 := q0 (by omega)
      have t1 := q1 (by omega)
      clear q0 q1 q2
      cases p2 with
      | false =>
        go_wp2
        go_ret
        exact ⟨by simp [brk3, t0, t1], hB.alloc hB.size _⟩
      | true =>
        go_wp2
        go_roundw
        case rel => exact ⟨3, by omega, rfl, ⟨fun _ => t0, fun _ => t1, fun _ => by trivial⟩, hB.alloc hB.size _⟩
        case measure => simp [intOf]
    · have t0 := q0 (by omega)
      have t1 := q1 (by omega)
      have t2 := q2 (by omega)
      clear q0 q1 q2
      go_wp2
      go_ret
      exact ⟨by simp [brk3, t0, t1, t2], hB⟩
end Go.Proofs.YtljfgchmogdljaaGreatDoor
