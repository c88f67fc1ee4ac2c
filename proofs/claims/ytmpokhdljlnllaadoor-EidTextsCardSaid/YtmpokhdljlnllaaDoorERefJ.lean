/- The document's Home, Join, Parse of package eid. -/
import Derived.Test.YtmpokhdljlnllaaDoorERefH
import Derived.Test.YtmpokhdljlnllaaDoorEJoin
set_option linter.unusedVariables false
set_option linter.unusedSimpArgs false
namespace Go.Proofs.YtmpokhdljlnllaaDoor
open Go.RowKit

set_option maxRecDepth 100000 in
set_option maxHeartbeats 4000000 in
theorem rhome_any (k : Int) (nd sv : ByteArray) (a b : Int) (w : World) (hn : nd.size ≤ 4000000000) (hs : sv.size ≤ 4000000000) :
    Calls Tryd.prog 20 #[nmV k nd sv a b] w fun e w' => e = .returned (.tuple #[homV k nd sv a b, .int .i64 (erS (nmO k nd sv a b))]) ∧ Below w.heap.size w w' := by
  have HC := Lib.hid (fun W => rright_any k nd sv a b W hn hs)
  clear hn hs
  unfold homV erS
  generalize nmR (nmO k nd sv a b) = r at *
  unfold nmV at *
  cases r with
  | false =>
    go_enter Tryd.func20, Tryd.ntmps20
    go_wp2_with fail
    refine (HC.out _).mono ?_
    rintro e w1 ⟨rfl, hb1⟩
    have r0 : w1.cell? ⟨w.heap.size + 1, 0, none⟩ = some (.int .i64 0) := (hb1.cell (p := ⟨w.heap.size + 1, 0, none⟩) (by simp; try omega)).trans (by go_simp)
    have r1 : w1.cell? ⟨w.heap.size + 1, 1, none⟩ = some (.string ⟨#[]⟩) := (hb1.cell (p := ⟨w.heap.size + 1, 1, none⟩) (by simp; try omega)).trans (by go_simp)
    have r2 : w1.cell? ⟨w.heap.size + 1, 2, none⟩ = some (.string ⟨#[]⟩) := (hb1.cell (p := ⟨w.heap.size + 1, 2, none⟩) (by simp; try omega)).trans (by go_simp)
    have r3 : w1.cell? ⟨w.heap.size + 1, 3, none⟩ = some (.int .i64 0) := (hb1.cell (p := ⟨w.heap.size + 1, 3, none⟩) (by simp; try omega)).trans (by go_simp)
    have r4 : w1.cell? ⟨w.heap.size + 1, 4, none⟩ = some (.int .i64 0) := (hb1.cell (p := ⟨w.heap.size + 1, 4, none⟩) (by simp; try omega)).trans (by go_simp)
    have q0 : w1.frozen? ⟨w.heap.size + 1, 0, none⟩ = false := (hb1.frozen (p := ⟨w.heap.size + 1, 0, none⟩) (by simp; try omega)).trans (by go_simp)
    have q1 : w1.frozen? ⟨w.heap.size + 1, 1, none⟩ = false := (hb1.frozen (p := ⟨w.heap.size + 1, 1, none⟩) (by simp; try omega)).trans (by go_simp)
    have q2 : w1.frozen? ⟨w.heap.size + 1, 2, none⟩ = false := (hb1.frozen (p := ⟨w.heap.size + 1, 2, none⟩) (by simp; try omega)).trans (by go_simp)
    have q3 : w1.frozen? ⟨w.heap.size + 1, 3, none⟩ = false := (hb1.frozen (p := ⟨w.heap.size + 1, 3, none⟩) (by simp; try omega)).trans (by go_simp)
    have q4 : w1.frozen? ⟨w.heap.size + 1, 4, none⟩ = false := (hb1.frozen (p := ⟨w.heap.size + 1, 4, none⟩) (by simp; try omega)).trans (by go_simp)
    have HB := Lib.hid (show Below w.heap.size w w1 from (below_alloc_l (below_alloc_l (Below.refl _ _))).trans (hb1.mono (by simp; omega)))
    clear hb1 HC
    go_wp2_with fail
    have k5 := set5 (v0 := .int .i64 0) (v1 := .string ⟨#[]⟩) (v2 := .string ⟨#[]⟩) (v3 := .int .i64 0) (v4 := .int .i64 0) r0 r1 r2 r3 r4
    exact bodyPost_ret (nm_res2 _ 2 3 rfl _ (.int .i64 60) rfl rfl k5) rfl ⟨rfl, below_set5 HB.out (Nat.le_succ _)⟩
  | true =>
    go_enter Tryd.func20, Tryd.ntmps20
    go_wp2_with fail
    refine (HC.out _).mono ?_
    rintro e w1 ⟨rfl, hb1⟩
    have r0 : w1.cell? ⟨w.heap.size + 1, 0, none⟩ = some (.int .i64 0) := (hb1.cell (p := ⟨w.heap.size + 1, 0, none⟩) (by simp; try omega)).trans (by go_simp)
    have r1 : w1.cell? ⟨w.heap.size + 1, 1, none⟩ = some (.string ⟨#[]⟩) := (hb1.cell (p := ⟨w.heap.size + 1, 1, none⟩) (by simp; try omega)).trans (by go_simp)
    have r2 : w1.cell? ⟨w.heap.size + 1, 2, none⟩ = some (.string ⟨#[]⟩) := (hb1.cell (p := ⟨w.heap.size + 1, 2, none⟩) (by simp; try omega)).trans (by go_simp)
    have r3 : w1.cell? ⟨w.heap.size + 1, 3, none⟩ = some (.int .i64 0) := (hb1.cell (p := ⟨w.heap.size + 1, 3, none⟩) (by simp; try omega)).trans (by go_simp)
    have r4 : w1.cell? ⟨w.heap.size + 1, 4, none⟩ = some (.int .i64 0) := (hb1.cell (p := ⟨w.heap.size + 1, 4, none⟩) (by simp; try omega)).trans (by go_simp)
    have q0 : w1.frozen? ⟨w.heap.size + 1, 0, none⟩ = false := (hb1.frozen (p := ⟨w.heap.size + 1, 0, none⟩) (by simp; try omega)).trans (by go_simp)
    have q1 : w1.frozen? ⟨w.heap.size + 1, 1, none⟩ = false := (hb1.frozen (p := ⟨w.heap.size + 1, 1, none⟩) (by simp; try omega)).trans (by go_simp)
    have q2 : w1.frozen? ⟨w.heap.size + 1, 2, none⟩ = false := (hb1.frozen (p := ⟨w.heap.size + 1, 2, none⟩) (by simp; try omega)).trans (by go_simp)
    have q3 : w1.frozen? ⟨w.heap.size + 1, 3, none⟩ = false := (hb1.frozen (p := ⟨w.heap.size + 1, 3, none⟩) (by simp; try omega)).trans (by go_simp)
    have q4 : w1.frozen? ⟨w.heap.size + 1, 4, none⟩ = false := (hb1.frozen (p := ⟨w.heap.size + 1, 4, none⟩) (by simp; try omega)).trans (by go_simp)
    have n0 : w1.cell? ⟨w.heap.size, 0, none⟩ = some (.int .i64 k) := (hb1.cell (p := ⟨w.heap.size, 0, none⟩) (by simp; try omega)).trans (by go_simp)
    have n1 : w1.cell? ⟨w.heap.size, 1, none⟩ = some (.string nd) := (hb1.cell (p := ⟨w.heap.size, 1, none⟩) (by simp; try omega)).trans (by go_simp)
    have n3 : w1.cell? ⟨w.heap.size, 3, none⟩ = some (.int .i64 a) := (hb1.cell (p := ⟨w.heap.size, 3, none⟩) (by simp; try omega)).trans (by go_simp)
    have HB := Lib.hid (show Below w.heap.size w w1 from (below_alloc_l (below_alloc_l (Below.refl _ _))).trans (hb1.mono (by simp; omega)))
    clear hb1 HC
    go_wp2_with fail
    have k5 := set5 (v0 := .int .i64 k) (v1 := .string nd) (v2 := .string ⟨#[]⟩) (v3 := .int .i64 a) (v4 := .int .i64 0) r0 r1 r2 r3 r4
    exact bodyPost_ret (nm_res2 _ 2 3 rfl _ (.int .i64 0) rfl rfl k5) rfl ⟨rfl, below_set5 HB.out (Nat.le_succ _)⟩

/-- A name that was read roughly, by the document, and what its halves say. -/
def refB (k : Int) (nd sv : ByteArray) (a b : Int) (s t : ByteArray) : Bool := nmR (nmO k nd sv a b) && decide (hfS (nmO k nd sv a b) = s) && decide (rsS (nmO k nd sv a b) = t)
theorem refB_red {k : Int} {nd sv : ByteArray} {a b : Int} {s t : ByteArray} (h : nmO k nd sv a b = rgh s.data.toList t.data.toList) : (if refB k nd sv a b s t then nmV k nd sv a b else nmV 0 ⟨#[]⟩ ⟨#[]⟩ 0 0) = nmX (jnR s.data.toList t.data.toList) ∧ (if refB k nd sv a b s t then (0 : Int) else 60) = erX (jnR s.data.toList t.data.toList) := by
  unfold refB jnR nmX erX
  rw [← h]
  by_cases hc : nmR (nmO k nd sv a b) = true ∧ hlv (nmO k nd sv a b) = (s.data.toList, t.data.toList)
  · rw [if_pos hc]
    have e1 : (nmR (nmO k nd sv a b) && decide (hfS (nmO k nd sv a b) = s) && decide (rsS (nmO k nd sv a b) = t)) = true := by
      rw [Bool.and_eq_true, Bool.and_eq_true, decide_eq_true_eq, decide_eq_true_eq]
      exact ⟨⟨hc.1, (hfS_eq hc.1 s).2 (by rw [hc.2])⟩, (rsS_eq hc.1 t).2 (by rw [hc.2])⟩
    rw [e1]
    exact ⟨(nmW_O k nd sv a b).symm, rfl⟩
  · rw [if_neg hc]
    have e1 : (nmR (nmO k nd sv a b) && decide (hfS (nmO k nd sv a b) = s) && decide (rsS (nmO k nd sv a b) = t)) = false := by
      rw [← Bool.not_eq_true, Bool.and_eq_true, Bool.and_eq_true, decide_eq_true_eq, decide_eq_true_eq]
      rintro ⟨⟨h1, h2⟩, h3⟩
      exact hc ⟨h1, Prod.ext ((hfS_eq h1 s).1 h2) ((rsS_eq h1 t).1 h3)⟩
    rw [e1]
    exact ⟨rfl, rfl⟩
end Go.Proofs.YtmpokhdljlnllaaDoor
