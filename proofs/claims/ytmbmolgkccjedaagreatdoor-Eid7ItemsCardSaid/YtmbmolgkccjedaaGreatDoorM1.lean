/- Contracts of walk and piece of package nums: a piece of a text, or too short. -/
import Derived.Test.YtmbmolgkccjedaaGreatDoorNumsA
import Derived.Test.YtmbmolgkccjedaaGreatDoorErrs
set_option linter.unusedVariables false
set_option linter.unusedSimpArgs false
namespace Go.Proofs.YtmbmolgkccjedaaGreatDoor
open Go.RowKit

theorem bcell {W w1 : World} (hb : Below W.heap.size W w1) : (∀ b o, b < W.heap.size → w1.cell? ⟨b, o, none⟩ = W.cell? ⟨b, o, none⟩) ∧ (∀ b o, b < W.heap.size → w1.frozen? ⟨b, o, none⟩ = W.frozen? ⟨b, o, none⟩) :=
  ⟨fun b o h => hb.cell (p := ⟨b, o, none⟩) h, fun b o h => hb.frozen (p := ⟨b, o, none⟩) h⟩

theorem two_cells {w : World} {b : Nat} {x y : Value} (c0 : w.cell? ⟨b, 0, none⟩ = some x) (c1 : w.cell? ⟨b, 1, none⟩ = some y) :
    (∀ u, (w.setCell ⟨b, 0, none⟩ u).cell? ⟨b, 0, none⟩ = some u) ∧ (∀ u v, ((w.setCell ⟨b, 0, none⟩ u).setCell ⟨b, 1, none⟩ v).cell? ⟨b, 1, none⟩ = some v) :=
  ⟨fun u => World.cell?_setCell_same' _ _ _ (by rw [c0]; rfl), fun u v => World.cell?_setCell_same' _ _ _ (by simp [go_sem, c1])⟩

set_option maxRecDepth 100000 in
set_option maxHeartbeats 1000000 in
theorem walk_ok (s : ByteArray) (at0 n : Int) (b : Nat) (w : World) (hs : s.size ≤ maxLen) (hb : b < w.heap.size) (c0 : w.cell? ⟨b, 0, none⟩ = some (.int .i64 at0)) (c1 : w.cell? ⟨b, 1, none⟩ = some (.int .i64 n))
    (h0 : 0 ≤ at0) (h1 : at0 ≤ s.size) (h2 : 0 ≤ n) (h3 : n ≤ s.size - at0) :
    Calls Tryz.prog 208 #[.string s, .slice (some ⟨b, 0, none⟩) 2 2] w fun e w' => e = .returned (.agg #[.int .i64 (at0 + n), .nilIface]) ∧ Below w.heap.size w w' := by
  unfold maxLen at hs
  go_enter Tryz.func208, Tryz.ntmps208
  go_wp2
  refine wp_loop_rounds 3 ?_
  rw [rounds_succ]
  go_wp2
  rw [rounds_succ]
  go_wp2
  rw [rounds_succ]
  go_wp2_with (go_at_call 207; refine (goodi_any _ _).mono ?_; rintro e w' ⟨rfl, rfl⟩)
  exact bodyPost_ret (v := .agg #[.int .i64 (at0 + n), .nilIface]) (by simp [results, Tryz.results208, go_sem]) rfl ⟨rfl, ((Below.refl _ _).alloc (Nat.le_refl _) _).alloc (by simp) _⟩

set_option maxRecDepth 100000 in
set_option maxHeartbeats 1000000 in
theorem walk_bad0 (a0 a1 a2 : Addr) (s : ByteArray) (at0 n : Int) (b : Nat) (w : World) (hE : Env a0 a1 a2 w) (hs : s.size ≤ maxLen) (hb : b < w.heap.size) (c0 : w.cell? ⟨b, 0, none⟩ = some (.int .i64 at0)) (h0 : at0 < 0 ∨ s.size < at0) :
    Calls Tryz.prog 208 #[.string s, .slice (some ⟨b, 0, none⟩) 2 2] w fun e w' => e = .returned (.agg #[.int .i64 0, .iface 299 (.pointer (some a2))]) ∧ Below w.heap.size w w' := by
  unfold maxLen at hs
  have g2 := hE.g2
  have hz := World.block_lt_of_cell? _ _ g2
  rcases h0 with h0 | h0
  · have h0' : decide (at0 < 0) = true := by simpa using h0
    go_enter Tryz.func208, Tryz.ntmps208
    go_wp2
    refine wp_loop_rounds 1 ?_
    rw [rounds_succ]
    go_wp2_with (go_at_call 205; refine (badi_any _ _).mono ?_; rintro e w' ⟨rfl, rfl⟩)
    exact bodyPost_ret (v := .agg #[.int .i64 0, .iface 299 (.pointer (some a2))]) (by simp [results, Tryz.results208, go_sem]) rfl ⟨rfl, ((Below.refl _ _).alloc (Nat.le_refl _) _).alloc (by simp) _⟩
  · have h0' : decide (at0 < 0) = false := by simp; omega
    have h0'' : ¬ at0 < 0 := by omega
    have h1 : 0 ≤ at0 := by omega
    go_enter Tryz.func208, Tryz.ntmps208
    go_wp2
    refine wp_loop_rounds 1 ?_
    rw [rounds_succ]
    go_wp2_with (go_at_call 205; refine (badi_any _ _).mono ?_; rintro e w' ⟨rfl, rfl⟩)
    exact bodyPost_ret (v := .agg #[.int .i64 0, .iface 299 (.pointer (some a2))]) (by simp [results, Tryz.results208, go_sem]) rfl ⟨rfl, ((Below.refl _ _).alloc (Nat.le_refl _) _).alloc (by simp) _⟩

set_option maxRecDepth 100000 in
set_option maxHeartbeats 1000000 in
theorem walk_bad1 (a0 a1 a2 : Addr) (s : ByteArray) (at0 n : Int) (b : Nat) (w : World) (hE : Env a0 a1 a2 w) (hs : s.size ≤ maxLen) (hb : b < w.heap.size) (c0 : w.cell? ⟨b, 0, none⟩ = some (.int .i64 at0)) (c1 : w.cell? ⟨b, 1, none⟩ = some (.int .i64 n))
    (h0 : 0 ≤ at0) (h1 : at0 ≤ s.size) (h2 : n < 0 ∨ s.size - at0 < n) :
    Calls Tryz.prog 208 #[.string s, .slice (some ⟨b, 0, none⟩) 2 2] w fun e w' => e = .returned (.agg #[.int .i64 0, .iface 299 (.pointer (some a2))]) ∧ Below w.heap.size w w' := by
  unfold maxLen at hs
  have g2 := hE.g2
  have hz := World.block_lt_of_cell? _ _ g2
  rcases h2 with h2 | h2
  · have h0' : decide (n < 0) = true := by simpa using h2
    go_enter Tryz.func208, Tryz.ntmps208
    go_wp2
    refine wp_loop_rounds 2 ?_
    rw [rounds_succ]
    go_wp2
    rw [rounds_succ]
    go_wp2_with (go_at_call 205; refine (badi_any _ _).mono ?_; rintro e w' ⟨rfl, rfl⟩)
    exact bodyPost_ret (v := .agg #[.int .i64 0, .iface 299 (.pointer (some a2))]) (by simp [results, Tryz.results208, go_sem]) rfl ⟨rfl, ((Below.refl _ _).alloc (Nat.le_refl _) _).alloc (by simp) _⟩
  · have h0'' : ¬ n < 0 := by omega
    go_enter Tryz.func208, Tryz.ntmps208
    go_wp2
    refine wp_loop_rounds 2 ?_
    rw [rounds_succ]
    go_wp2
    rw [rounds_succ]
    go_wp2_with (go_at_call 205; refine (badi_any _ _).mono ?_; rintro e w' ⟨rfl, rfl⟩)
    exact bodyPost_ret (v := .agg #[.int .i64 0, .iface 299 (.pointer (some a2))]) (by simp [results, Tryz.results208, go_sem]) rfl ⟨rfl, ((Below.refl _ _).alloc (Nat.le_refl _) _).alloc (by simp) _⟩

/-- n bytes of s stand at the place at0. -/
def fitsB (s : ByteArray) (at0 n : Int) : Prop := 0 ≤ at0 ∧ 0 ≤ n ∧ at0 + n ≤ s.size

instance (s : ByteArray) (at0 n : Int) : Decidable (fitsB s at0 n) := by unfold fitsB; infer_instance

theorem walk_bad (a0 a1 a2 : Addr) (s : ByteArray) (at0 n : Int) (b : Nat) (w : World) (hE : Env a0 a1 a2 w) (hs : s.size ≤ maxLen) (hb : b < w.heap.size) (c0 : w.cell? ⟨b, 0, none⟩ = some (.int .i64 at0)) (c1 : w.cell? ⟨b, 1, none⟩ = some (.int .i64 n)) (h : ¬ fitsB s at0 n) :
    Calls Tryz.prog 208 #[.string s, .slice (some ⟨b, 0, none⟩) 2 2] w fun e w' => e = .returned (.agg #[.int .i64 0, .iface 299 (.pointer (some a2))]) ∧ Below w.heap.size w w' := by
  unfold fitsB at h
  by_cases h0 : at0 < 0 ∨ s.size < at0
  · exact walk_bad0 a0 a1 a2 s at0 n b w hE hs hb c0 h0
  · exact walk_bad1 a0 a1 a2 s at0 n b w hE hs hb c0 c1 (by omega) (by omega) (by omega)

set_option maxRecDepth 100000 in
set_option maxHeartbeats 1000000 in
theorem piece_ok (s : ByteArray) (at0 n : Int) (w : World) (hs : s.size ≤ maxLen) (h : fitsB s at0 n) :
    Calls Tryz.prog 204 #[.string s, .int .i64 at0, .int .i64 n] w fun e w' => e = .returned (.agg #[.string (s.extract at0.toNat (at0 + n).toNat), .nilIface]) ∧ Below w.heap.size w w' := by
  unfold fitsB at h
  obtain ⟨h0, h1, h2⟩ := h
  have hs' := hs
  unfold maxLen at hs'
  go_enter Tryz.func204, Tryz.ntmps204
  go_wp2_with fail
  refine (walk_ok s at0 n _ _ hs (by simp) (by go_simp) (by go_simp) h0 (by omega) h1 (by omega)).mono ?_
  rintro e w1 ⟨rfl, hb1⟩
  obtain ⟨hc, hf⟩ := bcell hb1
  have hz : w.heap.size + 1 < w1.heap.size := by have := hb1.size; simp at this; omega
  have hz0 : w.heap.size < w1.heap.size := by omega
  go_wp2_with (go_at_call 173; refine (goods_any _ _).mono ?_; rintro e w' ⟨rfl, rfl⟩)
  obtain ⟨q0, q1⟩ := two_cells (w := w1) (b := w.heap.size) (x := .string ⟨#[]⟩) (y := .nilIface) ((hc w.heap.size 0 (by simp; omega)).trans (by go_simp)) ((hc w.heap.size 1 (by simp; omega)).trans (by go_simp))
  refine bodyPost_ret (v := .agg #[.string (s.extract at0.toNat (at0 + n).toNat), .nilIface]) (by simp [results, Tryz.results204, go_sem, hz0, Nat.lt_succ_of_lt hz0, Nat.ne_of_lt hz0, q0, q1]) rfl ⟨rfl, ?_⟩
  exact ((((((Below.refl _ _).alloc (Nat.le_refl _) _).alloc (by simp) _).trans (hb1.mono (by simp; omega))).setCell (by simp) _).setCell (by simp) _).alloc (by simp; omega) _ |>.alloc (by simp; omega) _

set_option maxRecDepth 100000 in
set_option maxHeartbeats 1000000 in
theorem piece_bad (a0 a1 a2 : Addr) (s : ByteArray) (at0 n : Int) (w : World) (hE : Env a0 a1 a2 w) (hs : s.size ≤ maxLen) (h : ¬ fitsB s at0 n) :
    Calls Tryz.prog 204 #[.string s, .int .i64 at0, .int .i64 n] w fun e w' => e = .returned (.agg #[.string ⟨#[]⟩, .iface 299 (.pointer (some a2))]) ∧ Below w.heap.size w w' := by
  have H := Lib.hid h
  clear h
  go_enter Tryz.func204, Tryz.ntmps204
  go_wp2_with fail
  refine (walk_bad a0 a1 a2 s at0 n _ _ (hE.below (((Below.refl _ _).alloc (Nat.le_refl _) _).alloc (by simp) _)) hs (by simp) (by go_simp) (by go_simp) H.out).mono ?_
  rintro e w1 ⟨rfl, hb1⟩
  obtain ⟨hc, hf⟩ := bcell hb1
  have hz : w.heap.size + 1 < w1.heap.size := by have := hb1.size; simp at this; omega
  have hz0 : w.heap.size < w1.heap.size := by omega
  go_wp2_with (go_at_call 172; refine (bads_any _ _).mono ?_; rintro e w' ⟨rfl, rfl⟩)
  obtain ⟨q0, q1⟩ := two_cells (w := w1) (b := w.heap.size) (x := .string ⟨#[]⟩) (y := .nilIface) ((hc w.heap.size 0 (by simp; omega)).trans (by go_simp)) ((hc w.heap.size 1 (by simp; omega)).trans (by go_simp))
  refine bodyPost_ret (v := .agg #[.string ⟨#[]⟩, .iface 299 (.pointer (some a2))]) (by simp [results, Tryz.results204, go_sem, hz0, Nat.lt_succ_of_lt hz0, Nat.ne_of_lt hz0, q0, q1]) rfl ⟨rfl, ?_⟩
  exact ((((((Below.refl _ _).alloc (Nat.le_refl _) _).alloc (by simp) _).trans (hb1.mono (by simp; omega))).setCell (by simp) _).setCell (by simp) _).alloc (by simp; omega) _ |>.alloc (by simp; omega) _
end Go.Proofs.YtmbmolgkccjedaaGreatDoor

/- What Cut of package nums and of the document answers, as a function; the document's Cut. -/
set_option linter.unusedVariables false
set_option linter.unusedSimpArgs false
namespace Go.Proofs.YtmbmolgkccjedaaGreatDoor
open Go.RowKit

/-- What Cut answers: the bytes, and the error's number. -/
def cutR (s : ByteArray) (at0 n : Int) : ByteArray × Int := if fitsB s at0 n then (s.extract at0.toNat (at0 + n).toNat, 0) else (⟨#[]⟩, 11)
theorem cutR_ok {s : ByteArray} {at0 n : Int} (h : fitsB s at0 n) : cutR s at0 n = (s.extract at0.toNat (at0 + n).toNat, 0) := if_pos h
theorem cutR_bad {s : ByteArray} {at0 n : Int} (h : ¬ fitsB s at0 n) : cutR s at0 n = (⟨#[]⟩, 11) := if_neg h

theorem extract_le (s : ByteArray) (a b : Nat) : (s.extract a b).size ≤ s.size := by
  rw [ByteArray.size_extract]; omega

set_option maxHeartbeats 400000 in
theorem refCut_any (s : ByteArray) (at0 n : Int) (w : World) (hl : s.size ≤ 281474976710656) (hat : at0 ≤ 9223372036854775807) :
    Calls Tryz.prog 90 #[.string s, .int .i64 at0, .int .i64 n] w fun e w' => e = .returned (.tuple #[.string (cutR s at0 n).1, .int .i64 (cutR s at0 n).2]) ∧ w = w' := by
  by_cases h : fitsB s at0 n
  · rw [cutR_ok h]
    obtain ⟨h0, h1, h2⟩ := h
    have b0 : decide (at0 < 0) = false := by simp; omega
    have b1 : decide ((s.size : Int) < at0) = false := by simp; omega
    have b2 : decide (n < 0) = false := by simp; omega
    have b3 : decide ((s.size : Int) - at0 < n) = false := by simp; omega
    go_enter Tryz.func90, Tryz.ntmps90
    go_wp2
    go_ret2
    exact ⟨rfl, rfl⟩
  · rw [cutR_bad h]
    unfold fitsB at h
    by_cases h0 : at0 < 0
    · have b0 : decide (at0 < 0) = true := by simpa using h0
      clear h
      go_enter Tryz.func90, Tryz.ntmps90
      go_wp2
      go_ret2
      exact ⟨rfl, rfl⟩
    have b0 : decide (at0 < 0) = false := by simpa using h0
    by_cases h1 : (s.size : Int) < at0
    · have b1 : decide ((s.size : Int) < at0) = true := by simpa using h1
      clear h
      go_enter Tryz.func90, Tryz.ntmps90
      go_wp2
      go_ret2
      exact ⟨rfl, rfl⟩
    have b1 : decide ((s.size : Int) < at0) = false := by simpa using h1
    by_cases h2 : n < 0
    · have b2 : decide (n < 0) = true := by simpa using h2
      clear h
      go_enter Tryz.func90, Tryz.ntmps90
      go_wp2
      go_ret2
      exact ⟨rfl, rfl⟩
    have b2 : decide (n < 0) = false := by simpa using h2
    have h3 : (s.size : Int) - at0 < n := by omega
    have b3 : decide ((s.size : Int) - at0 < n) = true := by simpa using h3
    clear h
    go_enter Tryz.func90, Tryz.ntmps90
    go_wp2
    go_ret2
    exact ⟨rfl, rfl⟩
end Go.Proofs.YtmbmolgkccjedaaGreatDoor
