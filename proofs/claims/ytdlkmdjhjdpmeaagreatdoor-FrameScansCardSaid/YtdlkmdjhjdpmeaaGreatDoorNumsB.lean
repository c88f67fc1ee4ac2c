/- Contracts of walk and piece of package nums: a piece of a text, or too short. -/
import Derived.Test.YtdlkmdjhjdpmeaaGreatDoorNumsA
import Derived.Test.YtdlkmdjhjdpmeaaGreatDoorErrs
set_option linter.unusedVariables false
set_option linter.unusedSimpArgs false
namespace Go.Proofs.YtdlkmdjhjdpmeaaGreatDoor
open Go.RowKit

theorem bcell {W w1 : World} (hb : Below W.heap.size W w1) : (∀ b o, b < W.heap.size → w1.cell? ⟨b, o, none⟩ = W.cell? ⟨b, o, none⟩) ∧ (∀ b o, b < W.heap.size → w1.frozen? ⟨b, o, none⟩ = W.frozen? ⟨b, o, none⟩) :=
  ⟨fun b o h => hb.cell (p := ⟨b, o, none⟩) h, fun b o h => hb.frozen (p := ⟨b, o, none⟩) h⟩

theorem two_cells {w : World} {b : Nat} {x y : Value} (c0 : w.cell? ⟨b, 0, none⟩ = some x) (c1 : w.cell? ⟨b, 1, none⟩ = some y) :
    (∀ u, (w.setCell ⟨b, 0, none⟩ u).cell? ⟨b, 0, none⟩ = some u) ∧ (∀ u v, ((w.setCell ⟨b, 0, none⟩ u).setCell ⟨b, 1, none⟩ v).cell? ⟨b, 1, none⟩ = some v) :=
  ⟨fun u => World.cell?_setCell_same' _ _ _ (by rw [c0]; rfl), fun u v => World.cell?_setCell_same' _ _ _ (by simp [go_sem, c1])⟩

set_option maxRecDepth 100000 in
set_option maxHeartbeats 1000000 in
theorem walk_ok (s : ByteArray) (at0 n : Int) (b : Nat) (w : World) (hs : s.size ≤ maxLen) (hb : b < w.heap.size) (c0 : w.cell? ⟨b, 0, none⟩ = some (.int .i64 at0)) (c1 : w.cell? ⟨b, 1, none⟩ = some (.int .i64 n))
    (h0 : 0 ≤ at0) (h1 : at0 ≤ s.size) (h2 : 0 ≤ n) (h3 : n ≤ s.size - at0) :
    Calls Tryz.prog 92 #[.string s, .slice (some ⟨b, 0, none⟩) 2 2] w fun e w' => e = .returned (.agg #[.int .i64 (at0 + n), .nilIface]) ∧ Below w.heap.size w w' := by
  unfold maxLen at hs
  go_enter Tryz.func92, Tryz.ntmps92
  go_wp2
  refine wp_loop_rounds 3 ?_
  rw [rounds_succ]
  go_wp2
  rw [rounds_succ]
  go_wp2
  rw [rounds_succ]
  go_wp2_with (go_at_call 91; refine (goodi_any _ _).mono ?_; rintro e w' ⟨rfl, rfl⟩)
  exact bodyPost_ret (v := .agg #[.int .i64 (at0 + n), .nilIface]) (by simp [results, Tryz.results92, go_sem]) rfl ⟨rfl, ((Below.refl _ _).alloc (Nat.le_refl _) _).alloc (by simp) _⟩

set_option maxRecDepth 100000 in
set_option maxHeartbeats 1000000 in
theorem walk_bad0 (a0 a1 a2 : Addr) (s : ByteArray) (at0 n : Int) (b : Nat) (w : World) (hE : Env a0 a1 a2 w) (hs : s.size ≤ maxLen) (hb : b < w.heap.size) (c0 : w.cell? ⟨b, 0, none⟩ = some (.int .i64 at0)) (h0 : at0 < 0 ∨ s.size < at0) :
    Calls Tryz.prog 92 #[.string s, .slice (some ⟨b, 0, none⟩) 2 2] w fun e w' => e = .returned (.agg #[.int .i64 0, .iface 179 (.pointer (some a2))]) ∧ Below w.heap.size w w' := by
  unfold maxLen at hs
  have g2 := hE.g2
  have hz := World.block_lt_of_cell? _ _ g2
  rcases h0 with h0 | h0
  · have h0' : decide (at0 < 0) = true := by simpa using h0
    go_enter Tryz.func92, Tryz.ntmps92
    go_wp2
    refine wp_loop_rounds 1 ?_
    rw [rounds_succ]
    go_wp2_with (go_at_call 89; refine (badi_any _ _).mono ?_; rintro e w' ⟨rfl, rfl⟩)
    exact bodyPost_ret (v := .agg #[.int .i64 0, .iface 179 (.pointer (some a2))]) (by simp [results, Tryz.results92, go_sem]) rfl ⟨rfl, ((Below.refl _ _).alloc (Nat.le_refl _) _).alloc (by simp) _⟩
  · have h0' : decide (at0 < 0) = false := by simp; omega
    have h0'' : ¬ at0 < 0 := by omega
    have h1 : 0 ≤ at0 := by omega
    go_enter Tryz.func92, Tryz.ntmps92
    go_wp2
    refine wp_loop_rounds 1 ?_
    rw [rounds_succ]
    go_wp2_with (go_at_call 89; refine (badi_any _ _).mono ?_; rintro e w' ⟨rfl, rfl⟩)
    exact bodyPost_ret (v := .agg #[.int .i64 0, .iface 179 (.pointer (some a2))]) (by simp [results, Tryz.results92, go_sem]) rfl ⟨rfl, ((Below.refl _ _).alloc (Nat.le_refl _) _).alloc (by simp) _⟩

set_option maxRecDepth 100000 in
set_option maxHeartbeats 1000000 in
theorem walk_bad1 (a0 a1 a2 : Addr) (s : ByteArray) (at0 n : Int) (b : Nat) (w : World) (hE : Env a0 a1 a2 w) (hs : s.size ≤ maxLen) (hb : b < w.heap.size) (c0 : w.cell? ⟨b, 0, none⟩ = some (.int .i64 at0)) (c1 : w.cell? ⟨b, 1, none⟩ = some (.int .i64 n))
    (h0 : 0 ≤ at0) (h1 : at0 ≤ s.size) (h2 : n < 0 ∨ s.size - at0 < n) :
    Calls Tryz.prog 92 #[.string s, .slice (some ⟨b, 0, none⟩) 2 2] w fun e w' => e = .returned (.agg #[.int .i64 0, .iface 179 (.pointer (some a2))]) ∧ Below w.heap.size w w' := by
  unfold maxLen at hs
  have g2 := hE.g2
  have hz := World.block_lt_of_cell? _ _ g2
  rcases h2 with h2 | h2
  · have h0' : decide (n < 0) = true := by simpa using h2
    go_enter Tryz.func92, Tryz.ntmps92
    go_wp2
    refine wp_loop_rounds 2 ?_
    rw [rounds_succ]
    go_wp2
    rw [rounds_succ]
    go_wp2_with (go_at_call 89; refine (badi_any _ _).mono ?_; rintro e w' ⟨rfl, rfl⟩)
    exact bodyPost_ret (v := .agg #[.int .i64 0, .iface 179 (.pointer (some a2))]) (by simp [results, Tryz.results92, go_sem]) rfl ⟨rfl, ((Below.refl _ _).alloc (Nat.le_refl _) _).alloc (by simp) _⟩
  · have h0'' : ¬ n < 0 := by omega
    go_enter Tryz.func92, Tryz.ntmps92
    go_wp2
    refine wp_loop_rounds 2 ?_
    rw [rounds_succ]
    go_wp2
    rw [rounds_succ]
    go_wp2_with (go_at_call 89; refine (badi_any _ _).mono ?_; rintro e w' ⟨rfl, rfl⟩)
    exact bodyPost_ret (v := .agg #[.int .i64 0, .iface 179 (.pointer (some a2))]) (by simp [results, Tryz.results92, go_sem]) rfl ⟨rfl, ((Below.refl _ _).alloc (Nat.le_refl _) _).alloc (by simp) _⟩

/-- n bytes of s stand at the place at0. -/
def fitsB (s : ByteArray) (at0 n : Int) : Prop := 0 ≤ at0 ∧ 0 ≤ n ∧ at0 + n ≤ s.size

instance (s : ByteArray) (at0 n : Int) : Decidable (fitsB s at0 n) := by unfold fitsB; infer_instance

theorem walk_bad (a0 a1 a2 : Addr) (s : ByteArray) (at0 n : Int) (b : Nat) (w : World) (hE : Env a0 a1 a2 w) (hs : s.size ≤ maxLen) (hb : b < w.heap.size) (c0 : w.cell? ⟨b, 0, none⟩ = some (.int .i64 at0)) (c1 : w.cell? ⟨b, 1, none⟩ = some (.int .i64 n)) (h : ¬ fitsB s at0 n) :
    Calls Tryz.prog 92 #[.string s, .slice (some ⟨b, 0, none⟩) 2 2] w fun e w' => e = .returned (.agg #[.int .i64 0, .iface 179 (.pointer (some a2))]) ∧ Below w.heap.size w w' := by
  unfold fitsB at h
  by_cases h0 : at0 < 0 ∨ s.size < at0
  · exact walk_bad0 a0 a1 a2 s at0 n b w hE hs hb c0 h0
  · exact walk_bad1 a0 a1 a2 s at0 n b w hE hs hb c0 c1 (by omega) (by omega) (by omega)

set_option maxRecDepth 100000 in
set_option maxHeartbeats 1000000 in
theorem piece_ok (s : ByteArray) (at0 n : Int) (w : World) (hs : s.size ≤ maxLen) (h : fitsB s at0 n) :
    Calls Tryz.prog 77 #[.string s, .int .i64 at0, .int .i64 n] w fun e w' => e = .returned (.agg #[.string (s.extract at0.toNat (at0 + n).toNat), .nilIface]) ∧ Below w.heap.size w w' := by
  unfold fitsB at h
  obtain ⟨h0, h1, h2⟩ := h
  have hs' := hs
  unfold maxLen at hs'
  go_enter Tryz.func77, Tryz.ntmps77
  go_wp2_with fail
  refine (walk_ok s at0 n _ _ hs (by simp) (by go_simp) (by go_simp) h0 (by omega) h1 (by omega)).mono ?_
  rintro e w1 ⟨rfl, hb1⟩
  obtain ⟨hc, hf⟩ := bcell hb1
  have hz : w.heap.size + 1 < w1.heap.size := by have := hb1.size; simp at this; omega
  have hz0 : w.heap.size < w1.heap.size := by omega
  go_wp2_with (go_at_call 83; refine (goods_any _ _).mono ?_; rintro e w' ⟨rfl, rfl⟩)
  obtain ⟨q0, q1⟩ := two_cells (w := w1) (b := w.heap.size) (x := .string ⟨#[]⟩) (y := .nilIface) ((hc w.heap.size 0 (by simp; omega)).trans (by go_simp)) ((hc w.heap.size 1 (by simp; omega)).trans (by go_simp))
  refine bodyPost_ret (v := .agg #[.string (s.extract at0.toNat (at0 + n).toNat), .nilIface]) (by simp [results, Tryz.results77, go_sem, hz0, Nat.lt_succ_of_lt hz0, Nat.ne_of_lt hz0, q0, q1]) rfl ⟨rfl, ?_⟩
  exact ((((((Below.refl _ _).alloc (Nat.le_refl _) _).alloc (by simp) _).trans (hb1.mono (by simp; omega))).setCell (by simp) _).setCell (by simp) _).alloc (by simp; omega) _ |>.alloc (by simp; omega) _

set_option maxRecDepth 100000 in
set_option maxHeartbeats 1000000 in
theorem piece_bad (a0 a1 a2 : Addr) (s : ByteArray) (at0 n : Int) (w : World) (hE : Env a0 a1 a2 w) (hs : s.size ≤ maxLen) (h : ¬ fitsB s at0 n) :
    Calls Tryz.prog 77 #[.string s, .int .i64 at0, .int .i64 n] w fun e w' => e = .returned (.agg #[.string ⟨#[]⟩, .iface 179 (.pointer (some a2))]) ∧ Below w.heap.size w w' := by
  have H := Lib.hid h
  clear h
  go_enter Tryz.func77, Tryz.ntmps77
  go_wp2_with fail
  refine (walk_bad a0 a1 a2 s at0 n _ _ (hE.below (((Below.refl _ _).alloc (Nat.le_refl _) _).alloc (by simp) _)) hs (by simp) (by go_simp) (by go_simp) H.out).mono ?_
  rintro e w1 ⟨rfl, hb1⟩
  obtain ⟨hc, hf⟩ := bcell hb1
  have hz : w.heap.size + 1 < w1.heap.size := by have := hb1.size; simp at this; omega
  have hz0 : w.heap.size < w1.heap.size := by omega
  go_wp2_with (go_at_call 82; refine (bads_any _ _).mono ?_; rintro e w' ⟨rfl, rfl⟩)
  obtain ⟨q0, q1⟩ := two_cells (w := w1) (b := w.heap.size) (x := .string ⟨#[]⟩) (y := .nilIface) ((hc w.heap.size 0 (by simp; omega)).trans (by go_simp)) ((hc w.heap.size 1 (by simp; omega)).trans (by go_simp))
  refine bodyPost_ret (v := .agg #[.string ⟨#[]⟩, .iface 179 (.pointer (some a2))]) (by simp [results, Tryz.results77, go_sem, hz0, Nat.lt_succ_of_lt hz0, Nat.ne_of_lt hz0, q0, q1]) rfl ⟨rfl, ?_⟩
  exact ((((((Below.refl _ _).alloc (Nat.le_refl _) _).alloc (by simp) _).trans (hb1.mono (by simp; omega))).setCell (by simp) _).setCell (by simp) _).alloc (by simp; omega) _ |>.alloc (by simp; omega) _
end Go.Proofs.YtdlkmdjhjdpmeaaGreatDoor
