/- Contracts of tell of package item, at its three types: the value, or nothing and the error's number. -/
import Derived.Test.YtljfgchmogdljaaGreatDoorG6
import Derived.Test.YtljfgchmogdljaaGreatDoorG7
import Derived.WalkSpells
import Derived.WalkLawsBesides
import Derived.Laws.ResultCell
import Derived.RegionTactic
import Derived.ChangeAlike
import Derived.WalkSmall
set_option linter.unusedVariables false
set_option linter.unusedSimpArgs false
namespace Go.Proofs.YtljfgchmogdljaaGreatDoor
open Go.RowKit

theorem EnvE.alloc {w : World} (h : EnvE w) (o : Obj) : EnvE (w.alloc o) := h.below ((Below.refl _ _).alloc (Nat.le_refl _) _)

set_option maxHeartbeats 400000 in
theorem itells_ok (s : ByteArray) (w : World) :
    Calls Tryz.prog 25 #[.agg #[.string s, .nilIface]] w fun e w' => e = .returned (.tuple #[.string s, .int .i64 0]) ∧ Below w.heap.size w w' := by
  go_enter Tryz.func25, Tryz.ntmps25
  go_wp2_with fail
  refine (as_nil _ _).mono ?_
  rintro e w' ⟨rfl, rfl⟩
  go_wp2
  go_ret2
  exact ⟨rfl, ((Below.refl _ _).alloc (Nat.le_refl _) _).alloc (by simp) _⟩

set_option maxHeartbeats 400000 in
theorem itells_bad (s : ByteArray) (v : Value) (k : Int) (w : World) (hG : EnvE w) (hv : Wrong k v) :
    Calls Tryz.prog 25 #[.agg #[.string s, v]] w fun e w' => e = .returned (.tuple #[.string ⟨#[]⟩, .int .i64 k]) ∧ Below w.heap.size w w' := by
  have HV := Lib.hid hv
  clear hv
  go_enter Tryz.func25, Tryz.ntmps25
  go_wp2_with fail
  refine (As_wrong (w.heap.size + 1) v k HV.out (.int .i64 0) _ ((hG.alloc _).alloc _) (by go_simp) (by go_simp)).mono ?_
  rintro e w1 ⟨rfl, hc1, hb1⟩
  have hB : Below w.heap.size w w1 := (((Below.refl _ _).alloc (Nat.le_refl _) _).alloc (by simp) _).trans (hb1.mono (by omega))
  clear hb1
  go_wp2
  go_quiet (fail)
  go_wp2
  go_ret2
  exact ⟨rfl, below_drewN hB _⟩

set_option maxHeartbeats 2000000 in
theorem itelli_ok (k n : Int) (s : ByteArray) (p : Option Addr) (m cap : Nat) (w : World) :
    Calls Tryz.prog 31 #[.agg #[.int .i64 k, .int .i64 n, .string s, .slice p m cap, .nilIface]] w fun e w' => e = .returned (.tuple #[.agg #[.int .i64 k, .int .i64 n, .string s, .slice p m cap], .int .i64 0]) ∧ Below w.heap.size w w' := by
  go_enter Tryz.func31, Tryz.ntmps31
  go_wp2_with fail
  refine (as_nil _ _).mono ?_
  rintro e w' ⟨rfl, rfl⟩
  go_wp2
  refine bodyPost_ret (v := .tuple #[.agg #[.int .i64 k, .int .i64 n, .string s, .slice p m cap], .int .i64 0]) (by simp [results, Tryz.results31, go_sem]) rfl ⟨rfl, ?_⟩
  exact (((Below.refl _ _).alloc (Nat.le_refl _) _).alloc (by simp) _).alloc (by simp; omega) _

set_option maxHeartbeats 4000000 in
theorem itelli_bad (k n : Int) (s : ByteArray) (p : Option Addr) (m cap : Nat) (v : Value) (e : Int) (w : World) (hG : EnvE w) (hv : Wrong e v) :
    Calls Tryz.prog 31 #[.agg #[.int .i64 k, .int .i64 n, .string s, .slice p m cap, v]] w fun e' w' => e' = .returned (.tuple #[.agg #[.int .i64 0, .int .i64 0, .string ⟨#[]⟩, .slice none 0 0], .int .i64 e]) ∧ Below w.heap.size w w' := by
  have HV := Lib.hid hv
  clear hv
  go_enter Tryz.func31, Tryz.ntmps31
  go_wp2_with fail
  refine (As_wrong (w.heap.size + 1 + 1) v e HV.out (.int .i64 0) _ (((hG.alloc _).alloc _).alloc _) (by go_simp) (by go_simp)).mono ?_
  rintro e' w1 ⟨rfl, hc1, hb1⟩
  have hc : ∀ b o, b < w.heap.size + 1 + 1 → _ := fun b o h => hb1.cell (p := ⟨b, o, none⟩) h
  have hf : ∀ b o, b < w.heap.size + 1 + 1 → _ := fun b o h => hb1.frozen (p := ⟨b, o, none⟩) h
  have hz : w.heap.size + 1 + 1 < w1.heap.size := by have := hb1.size; simp at this; omega
  have hz1 : w.heap.size + 1 < w1.heap.size := by omega
  have hB : Below w.heap.size w w1 := ((((Below.refl _ _).alloc (Nat.le_refl _) _).alloc (by simp) _).alloc (by simp; omega) _).trans (hb1.mono (by omega))
  have k0 : w1.cell? ⟨w.heap.size + 1, 0, none⟩ = some (.int .i64 0) := (hc (w.heap.size + 1) 0 (by omega)).trans (by go_simp)
  have k1 : w1.cell? ⟨w.heap.size + 1, 1, none⟩ = some (.int .i64 0) := (hc (w.heap.size + 1) 1 (by omega)).trans (by go_simp)
  have k2 : w1.cell? ⟨w.heap.size + 1, 2, none⟩ = some (.string ⟨#[]⟩) := (hc (w.heap.size + 1) 2 (by omega)).trans (by go_simp)
  have k3 : w1.cell? ⟨w.heap.size + 1, 3, none⟩ = some (.slice none 0 0) := (hc (w.heap.size + 1) 3 (by omega)).trans (by go_simp)
  have f0 : w1.frozen? ⟨w.heap.size + 1, 0, none⟩ = false := (hf (w.heap.size + 1) 0 (by omega)).trans (by go_simp)
  have f1 : w1.frozen? ⟨w.heap.size + 1, 1, none⟩ = false := (hf (w.heap.size + 1) 1 (by omega)).trans (by go_simp)
  have f2 : w1.frozen? ⟨w.heap.size + 1, 2, none⟩ = false := (hf (w.heap.size + 1) 2 (by omega)).trans (by go_simp)
  have f3 : w1.frozen? ⟨w.heap.size + 1, 3, none⟩ = false := (hf (w.heap.size + 1) 3 (by omega)).trans (by go_simp)
  clear hb1 hc hf
  go_wp2
  go_region
  all_goals go_wp2
  refine bodyPost_ret (v := .tuple #[.agg #[.int .i64 0, .int .i64 0, .string ⟨#[]⟩, .slice none 0 0], .int .i64 e]) (by simp [results, Tryz.results31, go_sem, hz1, Nat.lt_succ_of_lt hz1, Nat.ne_of_lt hz1, k0, k1, k2, k3]) rfl ⟨rfl, ?_⟩
  exact (((((hB.setCell (by simp) _).setCell (by simp) _).setCell (by simp) _).setCell (by simp) _).alloc (by simp; omega) _).drew

set_option maxHeartbeats 2000000 in
theorem itellp_ok (k n : Int) (s : ByteArray) (p : Option Addr) (m cap : Nat) (at0 : Int) (w : World) :
    Calls Tryz.prog 28 #[.agg #[.int .i64 k, .int .i64 n, .string s, .slice p m cap, .int .i64 at0, .nilIface]] w fun e w' => e = .returned (.tuple #[.agg #[.int .i64 k, .int .i64 n, .string s, .slice p m cap, .int .i64 at0], .int .i64 0]) ∧ Below w.heap.size w w' := by
  go_enter Tryz.func28, Tryz.ntmps28
  go_wp2_with fail
  refine (as_nil _ _).mono ?_
  rintro e w' ⟨rfl, rfl⟩
  go_wp2
  refine bodyPost_ret (v := .tuple #[.agg #[.int .i64 k, .int .i64 n, .string s, .slice p m cap, .int .i64 at0], .int .i64 0]) (by simp [results, Tryz.results28, go_sem]) rfl ⟨rfl, ?_⟩
  exact (((Below.refl _ _).alloc (Nat.le_refl _) _).alloc (by simp) _).alloc (by simp; omega) _

set_option maxHeartbeats 4000000 in
theorem itellp_bad (k n : Int) (s : ByteArray) (p : Option Addr) (m cap : Nat) (at0 : Int) (v : Value) (e : Int) (w : World) (hG : EnvE w) (hv : Wrong e v) :
    Calls Tryz.prog 28 #[.agg #[.int .i64 k, .int .i64 n, .string s, .slice p m cap, .int .i64 at0, v]] w fun e' w' => e' = .returned (.tuple #[.agg #[.int .i64 0, .int .i64 0, .string ⟨#[]⟩, .slice none 0 0, .int .i64 0], .int .i64 e]) ∧ Below w.heap.size w w' := by
  have HV := Lib.hid hv
  clear hv
  go_enter Tryz.func28, Tryz.ntmps28
  go_wp2_with fail
  refine (As_wrong (w.heap.size + 1 + 1) v e HV.out (.int .i64 0) _ (((hG.alloc _).alloc _).alloc _) (by go_simp) (by go_simp)).mono ?_
  rintro e' w1 ⟨rfl, hc1, hb1⟩
  have hc : ∀ b o, b < w.heap.size + 1 + 1 → _ := fun b o h => hb1.cell (p := ⟨b, o, none⟩) h
  have hf : ∀ b o, b < w.heap.size + 1 + 1 → _ := fun b o h => hb1.frozen (p := ⟨b, o, none⟩) h
  have hz : w.heap.size + 1 + 1 < w1.heap.size := by have := hb1.size; simp at this; omega
  have hz1 : w.heap.size + 1 < w1.heap.size := by omega
  have hB : Below w.heap.size w w1 := ((((Below.refl _ _).alloc (Nat.le_refl _) _).alloc (by simp) _).alloc (by simp; omega) _).trans (hb1.mono (by omega))
  have k0 : w1.cell? ⟨w.heap.size + 1, 0, none⟩ = some (.int .i64 0) := (hc (w.heap.size + 1) 0 (by omega)).trans (by go_simp)
  have k1 : w1.cell? ⟨w.heap.size + 1, 1, none⟩ = some (.int .i64 0) := (hc (w.heap.size + 1) 1 (by omega)).trans (by go_simp)
  have k2 : w1.cell? ⟨w.heap.size + 1, 2, none⟩ = some (.string ⟨#[]⟩) := (hc (w.heap.size + 1) 2 (by omega)).trans (by go_simp)
  have k3 : w1.cell? ⟨w.heap.size + 1, 3, none⟩ = some (.slice none 0 0) := (hc (w.heap.size + 1) 3 (by omega)).trans (by go_simp)
  have k4 : w1.cell? ⟨w.heap.size + 1, 4, none⟩ = some (.int .i64 0) := (hc (w.heap.size + 1) 4 (by omega)).trans (by go_simp)
  have f0 : w1.frozen? ⟨w.heap.size + 1, 0, none⟩ = false := (hf (w.heap.size + 1) 0 (by omega)).trans (by go_simp)
  have f1 : w1.frozen? ⟨w.heap.size + 1, 1, none⟩ = false := (hf (w.heap.size + 1) 1 (by omega)).trans (by go_simp)
  have f2 : w1.frozen? ⟨w.heap.size + 1, 2, none⟩ = false := (hf (w.heap.size + 1) 2 (by omega)).trans (by go_simp)
  have f3 : w1.frozen? ⟨w.heap.size + 1, 3, none⟩ = false := (hf (w.heap.size + 1) 3 (by omega)).trans (by go_simp)
  have f4 : w1.frozen? ⟨w.heap.size + 1, 4, none⟩ = false := (hf (w.heap.size + 1) 4 (by omega)).trans (by go_simp)
  clear hb1 hc hf
  go_wp2
  go_region
  all_goals go_wp2
  refine bodyPost_ret (v := .tuple #[.agg #[.int .i64 0, .int .i64 0, .string ⟨#[]⟩, .slice none 0 0, .int .i64 0], .int .i64 e]) (by simp [results, Tryz.results28, go_sem, hz1, Nat.lt_succ_of_lt hz1, Nat.ne_of_lt hz1, k0, k1, k2, k3, k4]) rfl ⟨rfl, ?_⟩
  exact ((((((hB.setCell (by simp) _).setCell (by simp) _).setCell (by simp) _).setCell (by simp) _).setCell (by simp) _).alloc (by simp; omega) _).drew
end Go.Proofs.YtljfgchmogdljaaGreatDoor
