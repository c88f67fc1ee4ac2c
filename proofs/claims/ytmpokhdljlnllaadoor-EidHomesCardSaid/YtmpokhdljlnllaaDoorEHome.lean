/- Contracts of owned, home, Home of package eid. -/
import Derived.Test.YtmpokhdljlnllaaDoorEHalv
set_option linter.unusedVariables false
set_option linter.unusedSimpArgs false
namespace Go.Proofs.YtmpokhdljlnllaaDoor
open Go.RowKit

theorem set5 {W : World} {R : Nat} {x0 x1 x2 x3 x4 v0 v1 v2 v3 v4 : Value} (c0 : W.cell? ⟨R, 0, none⟩ = some x0) (c1 : W.cell? ⟨R, 1, none⟩ = some x1) (c2 : W.cell? ⟨R, 2, none⟩ = some x2) (c3 : W.cell? ⟨R, 3, none⟩ = some x3) (c4 : W.cell? ⟨R, 4, none⟩ = some x4) :
    (((((W.setCell ⟨R, 0, none⟩ v0).setCell ⟨R, 1, none⟩ v1).setCell ⟨R, 2, none⟩ v2).setCell ⟨R, 3, none⟩ v3).setCell ⟨R, 4, none⟩ v4).cell? ⟨R, 0, none⟩ = some v0 ∧ (((((W.setCell ⟨R, 0, none⟩ v0).setCell ⟨R, 1, none⟩ v1).setCell ⟨R, 2, none⟩ v2).setCell ⟨R, 3, none⟩ v3).setCell ⟨R, 4, none⟩ v4).cell? ⟨R, 1, none⟩ = some v1 ∧ (((((W.setCell ⟨R, 0, none⟩ v0).setCell ⟨R, 1, none⟩ v1).setCell ⟨R, 2, none⟩ v2).setCell ⟨R, 3, none⟩ v3).setCell ⟨R, 4, none⟩ v4).cell? ⟨R, 2, none⟩ = some v2 ∧ (((((W.setCell ⟨R, 0, none⟩ v0).setCell ⟨R, 1, none⟩ v1).setCell ⟨R, 2, none⟩ v2).setCell ⟨R, 3, none⟩ v3).setCell ⟨R, 4, none⟩ v4).cell? ⟨R, 3, none⟩ = some v3 ∧ (((((W.setCell ⟨R, 0, none⟩ v0).setCell ⟨R, 1, none⟩ v1).setCell ⟨R, 2, none⟩ v2).setCell ⟨R, 3, none⟩ v3).setCell ⟨R, 4, none⟩ v4).cell? ⟨R, 4, none⟩ = some v4 := by
  refine ⟨?_, ?_, ?_, ?_, ?_⟩ <;> go_simp
theorem below_set5 {w W : World} {R : Nat} {v0 v1 v2 v3 v4 : Value} (h : Below w.heap.size w W) (hR : w.heap.size ≤ R) : Below w.heap.size w (((((W.setCell ⟨R, 0, none⟩ v0).setCell ⟨R, 1, none⟩ v1).setCell ⟨R, 2, none⟩ v2).setCell ⟨R, 3, none⟩ v3).setCell ⟨R, 4, none⟩ v4) :=
  below_set_l (below_set_l (below_set_l (below_set_l (below_set_l h hR) hR) hR) hR) hR
theorem nm_res1 {W : World} {R : Nat} {k : Int} {nd sv : ByteArray} {a b : Int} (fn : Func) (hres : fn.results = #[.cell 2 23]) (tmps : Array Value) (h2 : tmps[2]?.getD undef = .pointer (some ⟨R, 0, none⟩))
    (c : W.cell? ⟨R, 0, none⟩ = some (.int .i64 k) ∧ W.cell? ⟨R, 1, none⟩ = some (.string nd) ∧ W.cell? ⟨R, 2, none⟩ = some (.string sv) ∧ W.cell? ⟨R, 3, none⟩ = some (.int .i64 a) ∧ W.cell? ⟨R, 4, none⟩ = some (.int .i64 b)) :
    (results fn tmps).run Tryd.prog W = .ok (nmV k nd sv a b) W := by
  obtain ⟨c0, c1, c2, c3, c4⟩ := c
  unfold nmV
  simp [results, hres, go_sem, h2, c0, c1, c2, c3, c4]
theorem nm_res2 {W : World} {R : Nat} {k : Int} {nd sv : ByteArray} {a b : Int} (fn : Func) (j s : Nat) (hres : fn.results = #[.cell j 23, .tmp s]) (tmps : Array Value) (v : Value) (h2 : tmps[j]?.getD undef = .pointer (some ⟨R, 0, none⟩)) (h3 : tmps[s]?.getD undef = v)
    (c : W.cell? ⟨R, 0, none⟩ = some (.int .i64 k) ∧ W.cell? ⟨R, 1, none⟩ = some (.string nd) ∧ W.cell? ⟨R, 2, none⟩ = some (.string sv) ∧ W.cell? ⟨R, 3, none⟩ = some (.int .i64 a) ∧ W.cell? ⟨R, 4, none⟩ = some (.int .i64 b)) :
    (results fn tmps).run Tryd.prog W = .ok (.tuple #[nmV k nd sv a b, v]) W := by
  obtain ⟨c0, c1, c2, c3, c4⟩ := c
  unfold nmV
  simp [results, hres, go_sem, h2, h3, c0, c1, c2, c3, c4]

set_option maxRecDepth 100000 in
set_option maxHeartbeats 4000000 in
theorem owned_any (k : Int) (nd sv : ByteArray) (a b : Int) (w : World) (hn : nd.size ≤ 4000000000) (hs : sv.size ≤ 4000000000) :
    Calls Tryd.prog 37 #[nmV k nd sv a b] w fun e w' => e = .returned (nmV k nd sv a b) ∧ Below w.heap.size w w' := by
  have HC1 := Lib.hid (fun W => clone_any nd W hn)
  have HC2 := Lib.hid (fun W => clone_any sv W hs)
  clear hn hs
  rw [show nmV k nd sv a b = .agg #[.int .i64 k, .string nd, .string sv, .int .i64 a, .int .i64 b] from rfl]
  go_enter Tryd.func37, Tryd.ntmps37
  go_wp2_with fail
  obtain ⟨w0, hw0⟩ : ∃ w0, w0 = (w.alloc (.cells #[.int .i64 k, .string nd, .string sv, .int .i64 a, .int .i64 b] 23)).alloc (.cells #[.int .i64 0, .string ⟨#[]⟩, .string ⟨#[]⟩, .int .i64 0, .int .i64 0] 23) := ⟨_, rfl⟩
  have HB0 := Lib.hid (show Below w.heap.size w w0 by rw [hw0]; exact below_alloc_l (below_alloc_l (Below.refl _ _)))
  have hz0 : w0.heap.size = w.heap.size + 1 + 1 := by rw [hw0]; simp
  have n0 : w0.cell? ⟨w.heap.size, 0, none⟩ = some (.int .i64 k) := by rw [hw0]; go_simp
  have n1 : w0.cell? ⟨w.heap.size, 1, none⟩ = some (.string nd) := by rw [hw0]; go_simp
  have n2 : w0.cell? ⟨w.heap.size, 2, none⟩ = some (.string sv) := by rw [hw0]; go_simp
  have n3 : w0.cell? ⟨w.heap.size, 3, none⟩ = some (.int .i64 a) := by rw [hw0]; go_simp
  have n4 : w0.cell? ⟨w.heap.size, 4, none⟩ = some (.int .i64 b) := by rw [hw0]; go_simp
  have r0 : w0.cell? ⟨w.heap.size + 1, 0, none⟩ = some (.int .i64 0) := by rw [hw0]; go_simp
  have r1 : w0.cell? ⟨w.heap.size + 1, 1, none⟩ = some (.string ⟨#[]⟩) := by rw [hw0]; go_simp
  have r2 : w0.cell? ⟨w.heap.size + 1, 2, none⟩ = some (.string ⟨#[]⟩) := by rw [hw0]; go_simp
  have r3 : w0.cell? ⟨w.heap.size + 1, 3, none⟩ = some (.int .i64 0) := by rw [hw0]; go_simp
  have r4 : w0.cell? ⟨w.heap.size + 1, 4, none⟩ = some (.int .i64 0) := by rw [hw0]; go_simp
  have f0 : w0.frozen? ⟨w.heap.size, 0, none⟩ = false := by rw [hw0]; go_simp
  have f1 : w0.frozen? ⟨w.heap.size, 1, none⟩ = false := by rw [hw0]; go_simp
  have f2 : w0.frozen? ⟨w.heap.size, 2, none⟩ = false := by rw [hw0]; go_simp
  have f3 : w0.frozen? ⟨w.heap.size, 3, none⟩ = false := by rw [hw0]; go_simp
  have f4 : w0.frozen? ⟨w.heap.size, 4, none⟩ = false := by rw [hw0]; go_simp
  have q0 : w0.frozen? ⟨w.heap.size + 1, 0, none⟩ = false := by rw [hw0]; go_simp
  have q1 : w0.frozen? ⟨w.heap.size + 1, 1, none⟩ = false := by rw [hw0]; go_simp
  have q2 : w0.frozen? ⟨w.heap.size + 1, 2, none⟩ = false := by rw [hw0]; go_simp
  have q3 : w0.frozen? ⟨w.heap.size + 1, 3, none⟩ = false := by rw [hw0]; go_simp
  have q4 : w0.frozen? ⟨w.heap.size + 1, 4, none⟩ = false := by rw [hw0]; go_simp
  rw [← hw0]
  clear hw0
  have HN := Lib.hid (And.intro n0 (And.intro n3 n4))
  have HN12 := Lib.hid (And.intro n1 n2)
  have HR := Lib.hid (And.intro r0 (And.intro r1 (And.intro r2 (And.intro r3 r4))))
  have HF := Lib.hid (And.intro f1 f2)
  have HQ := Lib.hid (And.intro q0 (And.intro q1 (And.intro q2 (And.intro q3 q4))))
  have hcum := Lib.hid (Below.refl w0.heap.size w0).drew
  clear n0 n3 n4 r0 r1 r2 r3 r4 f0 f1 f2 f3 f4 q0 q1 q2 q3 q4
  go_region_held3 (fun w' => w'.cell? ⟨w.heap.size, 1, none⟩ = some (.string nd) ∧ w'.cell? ⟨w.heap.size, 2, none⟩ = some (.string sv))
    (first
      | go_keep
      | (go_simp; done))
    (first
      | ((go_at_call 48; go_fit (HC1.out _); rintro e w1 ⟨rfl, hb1⟩; have HB1 := Lib.hid hb1; clear hb1; have hcum2 := Lib.hid (hcum.out.trans (HB1.out.mono hcum.out.size)); clear hcum; have hcum := hcum2; clear hcum2; have m1 := (hcum.out.cell (p := ⟨w.heap.size, 1, none⟩) (by simp; omega)).trans HN12.out.1; have m2 := (hcum.out.cell (p := ⟨w.heap.size, 2, none⟩) (by simp; omega)).trans HN12.out.2; have f1 := (hcum.out.frozen (p := ⟨w.heap.size, 1, none⟩) (by simp; omega)).trans HF.out.1; have f2 := (hcum.out.frozen (p := ⟨w.heap.size, 2, none⟩) (by simp; omega)).trans HF.out.2))
      | ((go_at_call 48; go_fit (HC2.out _); rintro e w1 ⟨rfl, hb1⟩; have HB1 := Lib.hid hb1; clear hb1; have hcum2 := Lib.hid (hcum.out.trans (HB1.out.mono hcum.out.size)); clear hcum; have hcum := hcum2; clear hcum2; have m1 := (hcum.out.cell (p := ⟨w.heap.size, 1, none⟩) (by simp; omega)).trans HN12.out.1; have m2 := (hcum.out.cell (p := ⟨w.heap.size, 2, none⟩) (by simp; omega)).trans HN12.out.2; have f1 := (hcum.out.frozen (p := ⟨w.heap.size, 1, none⟩) (by simp; omega)).trans HF.out.1; have f2 := (hcum.out.frozen (p := ⟨w.heap.size, 2, none⟩) (by simp; omega)).trans HF.out.2)))
  all_goals
    have hz1 : w0.heap.size ≤ w1.heap.size := hcum.out.size
    have c : ∀ {p : Addr} {v : Value}, w0.cell? p = some v → w1.cell? p = some v := fun e => (hcum.out.cell (World.block_lt_of_cell? _ _ e)).trans e
    have n0 := c HN.out.1
    have n3 := c HN.out.2.1
    have n4 := c HN.out.2.2
    have r0 := c HR.out.1
    have r1 := c HR.out.2.1
    have r2 := c HR.out.2.2.1
    have r3 := c HR.out.2.2.2.1
    have r4 := c HR.out.2.2.2.2
    have q0 := (hcum.out.frozen (World.block_lt_of_cell? _ _ HR.out.1)).trans HQ.out.1
    have q1 := (hcum.out.frozen (World.block_lt_of_cell? _ _ HR.out.2.1)).trans HQ.out.2.1
    have q2 := (hcum.out.frozen (World.block_lt_of_cell? _ _ HR.out.2.2.1)).trans HQ.out.2.2.1
    have q3 := (hcum.out.frozen (World.block_lt_of_cell? _ _ HR.out.2.2.2.1)).trans HQ.out.2.2.2.1
    have q4 := (hcum.out.frozen (World.block_lt_of_cell? _ _ HR.out.2.2.2.2)).trans HQ.out.2.2.2.2
    have HBW := Lib.hid (HB0.out.trans (hcum.out.mono HB0.out.size))
    clear c hcum HN HR HF HQ HB0 HB1 HN12 HC1 HC2 n1 n2
    go_wp2_with fail
    have k5 := set5 (x0 := .int .i64 0) (x1 := .string ⟨#[]⟩) (x2 := .string ⟨#[]⟩) (x3 := .int .i64 0) (x4 := .int .i64 0) (v0 := .int .i64 k) (v1 := .string nd) (v2 := .string sv) (v3 := .int .i64 a) (v4 := .int .i64 b) (W := (w1.setCell ⟨w.heap.size, 1, none⟩ (.string nd)).setCell ⟨w.heap.size, 2, none⟩ (.string sv)) (R := w.heap.size + 1) (by go_simp) (by go_simp) (by go_simp) (by go_simp) (by go_simp)
    exact bodyPost_ret (nm_res1 _ rfl _ rfl k5) rfl ⟨rfl, below_set5 (below_set_l (below_set_l HBW.out (Nat.le_refl _)) (Nat.le_refl _)) (Nat.le_succ _)⟩

/-- The name of a name's node, or nothing. -/
def homV (k : Int) (nd sv : ByteArray) (a b : Int) : Value := if nmR (nmO k nd sv a b) then nmV k nd ⟨#[]⟩ a 0 else nmV 0 ⟨#[]⟩ ⟨#[]⟩ 0 0

set_option maxRecDepth 100000 in
set_option maxHeartbeats 4000000 in
theorem home_any (k : Int) (nd sv : ByteArray) (a b : Int) (w : World) (hE : EnvN w) (ha : I64 a) (hb : I64 b) (hn : nd.size ≤ 4000000000) :
    Calls Tryd.prog 33 #[nmV k nd sv a b] w fun e w' => e = .returned (.tuple #[homV k nd sv a b, .bool (nmR (nmO k nd sv a b))]) ∧ Below w.heap.size w w' := by
  have HC := Lib.hid (eright_any k nd sv a b _ (hE.below (below_alloc_l (o := .cells #[.int .i64 0, .string ⟨#[]⟩, .string ⟨#[]⟩, .int .i64 0, .int .i64 0] 23) (below_alloc_l (o := .cells #[.int .i64 k, .string nd, .string sv, .int .i64 a, .int .i64 b] 23) (Below.refl _ _)))) ha hb)
  clear hE
  unfold homV
  generalize nmR (nmO k nd sv a b) = r at *
  have HO := Lib.hid (fun W => owned_any k nd ⟨#[]⟩ a 0 W hn (by decide))
  unfold nmV at *
  cases r with
  | false =>
    simp only [Bool.false_eq_true, if_false]
    go_enter Tryd.func33, Tryd.ntmps33
    go_wp2_with fail
    refine HC.out.mono ?_
    rintro e w1 ⟨rfl, hb1⟩
    have r0 : w1.cell? ⟨w.heap.size + 1, 0, none⟩ = some (.int .i64 0) := (hb1.cell (p := ⟨w.heap.size + 1, 0, none⟩) (by simp; try omega)).trans (by go_simp)
    have r1 : w1.cell? ⟨w.heap.size + 1, 1, none⟩ = some (.string ⟨#[]⟩) := (hb1.cell (p := ⟨w.heap.size + 1, 1, none⟩) (by simp; try omega)).trans (by go_simp)
    have r2 : w1.cell? ⟨w.heap.size + 1, 2, none⟩ = some (.string ⟨#[]⟩) := (hb1.cell (p := ⟨w.heap.size + 1, 2, none⟩) (by simp; try omega)).trans (by go_simp)
    have r3 : w1.cell? ⟨w.heap.size + 1, 3, none⟩ = some (.int .i64 0) := (hb1.cell (p := ⟨w.heap.size + 1, 3, none⟩) (by simp; try omega)).trans (by go_simp)
    have r4 : w1.cell? ⟨w.heap.size + 1, 4, none⟩ = some (.int .i64 0) := (hb1.cell (p := ⟨w.heap.size + 1, 4, none⟩) (by simp; try omega)).trans (by go_simp)
    have q0 : w1.frozen? ⟨w.heap.size + 1, 0, none⟩ = false := (hb1.frozen (p := ⟨w.heap.size + 1, 0, none⟩) (by simp; try omega)).trans (by go_simp)
    have q1 : w1.frozen? ⟨w.heap.size + 1, 1, none⟩ = false := (hb1.frozen (p := ⟨w.heap.size + 1, 1, none⟩) (by simp; try omega)).trans (by go_simp)
    have q2 : w1.frozen? ⟨w.heap.size + 1, 2, none⟩ = false := (hb1.frozen (p := ⟨w.heap.size + 1, 2, none⟩) (by simp; try omega)).trans (by go_simp)
    have q3 : w1.frozen? ⟨w.heap.size + 1, 3, none⟩ = false := (hb1.frozen (p := ⟨w.heap.size + 1, 3, none⟩) (by simp; try omega)).trans (by go_simp)
    have q4 : w1.frozen? ⟨w.heap.size + 1, 4, none⟩ = false := (hb1.frozen (p := ⟨w.heap.size + 1, 4, none⟩) (by simp; try omega)).trans (by go_simp)
    have HB := Lib.hid (show Below w.heap.size w w1 from (below_alloc_l (below_alloc_l (Below.refl _ _))).trans (hb1.mono (by simp; omega)))
    clear hb1 HC HO
    go_wp2_with fail
    have k5 := set5 (v0 := .int .i64 0) (v1 := .string ⟨#[]⟩) (v2 := .string ⟨#[]⟩) (v3 := .int .i64 0) (v4 := .int .i64 0) r0 r1 r2 r3 r4
    exact bodyPost_ret (nm_res2 _ 2 3 rfl _ (.bool false) rfl rfl k5) rfl ⟨rfl, below_set5 HB.out (Nat.le_succ _)⟩
  | true =>
    simp only [if_true]
    go_enter Tryd.func33, Tryd.ntmps33
    go_wp2_with fail
    refine HC.out.mono ?_
    rintro e w1 ⟨rfl, hb1⟩
    have n0 : w1.cell? ⟨w.heap.size, 0, none⟩ = some (.int .i64 k) := (hb1.cell (p := ⟨w.heap.size, 0, none⟩) (by simp; try omega)).trans (by go_simp)
    have n1 : w1.cell? ⟨w.heap.size, 1, none⟩ = some (.string nd) := (hb1.cell (p := ⟨w.heap.size, 1, none⟩) (by simp; try omega)).trans (by go_simp)
    have n2 : w1.cell? ⟨w.heap.size, 2, none⟩ = some (.string sv) := (hb1.cell (p := ⟨w.heap.size, 2, none⟩) (by simp; try omega)).trans (by go_simp)
    have n3 : w1.cell? ⟨w.heap.size, 3, none⟩ = some (.int .i64 a) := (hb1.cell (p := ⟨w.heap.size, 3, none⟩) (by simp; try omega)).trans (by go_simp)
    have n4 : w1.cell? ⟨w.heap.size, 4, none⟩ = some (.int .i64 b) := (hb1.cell (p := ⟨w.heap.size, 4, none⟩) (by simp; try omega)).trans (by go_simp)
    have r0 : w1.cell? ⟨w.heap.size + 1, 0, none⟩ = some (.int .i64 0) := (hb1.cell (p := ⟨w.heap.size + 1, 0, none⟩) (by simp; try omega)).trans (by go_simp)
    have r1 : w1.cell? ⟨w.heap.size + 1, 1, none⟩ = some (.string ⟨#[]⟩) := (hb1.cell (p := ⟨w.heap.size + 1, 1, none⟩) (by simp; try omega)).trans (by go_simp)
    have r2 : w1.cell? ⟨w.heap.size + 1, 2, none⟩ = some (.string ⟨#[]⟩) := (hb1.cell (p := ⟨w.heap.size + 1, 2, none⟩) (by simp; try omega)).trans (by go_simp)
    have r3 : w1.cell? ⟨w.heap.size + 1, 3, none⟩ = some (.int .i64 0) := (hb1.cell (p := ⟨w.heap.size + 1, 3, none⟩) (by simp; try omega)).trans (by go_simp)
    have r4 : w1.cell? ⟨w.heap.size + 1, 4, none⟩ = some (.int .i64 0) := (hb1.cell (p := ⟨w.heap.size + 1, 4, none⟩) (by simp; try omega)).trans (by go_simp)
    have q0 : w1.frozen? ⟨w.heap.size + 1, 0, none⟩ = false := (hb1.frozen (p := ⟨w.heap.size + 1, 0, none⟩) (by simp; try omega)).trans (by go_simp)
    have q1 : w1.frozen? ⟨w.heap.size + 1, 1, none⟩ = false := (hb1.frozen (p := ⟨w.heap.size + 1, 1, none⟩) (by simp; try omega)).trans (by go_simp)
    have q2 : w1.frozen? ⟨w.heap.size + 1, 2, none⟩ = false := (hb1.frozen (p := ⟨w.heap.size + 1, 2, none⟩) (by simp; try omega)).trans (by go_simp)
    have q3 : w1.frozen? ⟨w.heap.size + 1, 3, none⟩ = false := (hb1.frozen (p := ⟨w.heap.size + 1, 3, none⟩) (by simp; try omega)).trans (by go_simp)
    have q4 : w1.frozen? ⟨w.heap.size + 1, 4, none⟩ = false := (hb1.frozen (p := ⟨w.heap.size + 1, 4, none⟩) (by simp; try omega)).trans (by go_simp)
    have f0 : w1.frozen? ⟨w.heap.size, 0, none⟩ = false := (hb1.frozen (p := ⟨w.heap.size, 0, none⟩) (by simp; try omega)).trans (by go_simp)
    have f1 : w1.frozen? ⟨w.heap.size, 1, none⟩ = false := (hb1.frozen (p := ⟨w.heap.size, 1, none⟩) (by simp; try omega)).trans (by go_simp)
    have f2 : w1.frozen? ⟨w.heap.size, 2, none⟩ = false := (hb1.frozen (p := ⟨w.heap.size, 2, none⟩) (by simp; try omega)).trans (by go_simp)
    have f3 : w1.frozen? ⟨w.heap.size, 3, none⟩ = false := (hb1.frozen (p := ⟨w.heap.size, 3, none⟩) (by simp; try omega)).trans (by go_simp)
    have f4 : w1.frozen? ⟨w.heap.size, 4, none⟩ = false := (hb1.frozen (p := ⟨w.heap.size, 4, none⟩) (by simp; try omega)).trans (by go_simp)
    have hz1 : w.heap.size + 1 + 1 ≤ w1.heap.size := by have := hb1.size; simp at this; omega
    have HB := Lib.hid (show Below w.heap.size w w1 from (below_alloc_l (below_alloc_l (Below.refl _ _))).trans (hb1.mono (by simp; omega)))
    have HR := Lib.hid (And.intro r0 (And.intro r1 (And.intro r2 (And.intro r3 r4))))
    have HQ := Lib.hid (And.intro q0 (And.intro q1 (And.intro q2 (And.intro q3 q4))))
    clear hb1 HC r0 r1 r2 r3 r4 q0 q1 q2 q3 q4 f0 f1 f3
    go_wp2_with fail
    refine (HO.out _).mono ?_
    rintro e w2 ⟨rfl, hb2⟩
    have c : ∀ (i : Nat) (v : Value), w1.cell? ⟨w.heap.size + 1, i, none⟩ = some v → w2.cell? ⟨w.heap.size + 1, i, none⟩ = some v := fun i v e => (hb2.cell (p := ⟨w.heap.size + 1, i, none⟩) (by simp; omega)).trans (by go_simp)
    have r0 := c _ _ HR.out.1
    have r1 := c _ _ HR.out.2.1
    have r2 := c _ _ HR.out.2.2.1
    have r3 := c _ _ HR.out.2.2.2.1
    have r4 := c _ _ HR.out.2.2.2.2
    have cf : ∀ (i : Nat), w1.frozen? ⟨w.heap.size + 1, i, none⟩ = false → w2.frozen? ⟨w.heap.size + 1, i, none⟩ = false := fun i e => (hb2.frozen (p := ⟨w.heap.size + 1, i, none⟩) (by simp; omega)).trans (by go_simp)
    have q0 := cf _ HQ.out.1
    have q1 := cf _ HQ.out.2.1
    have q2 := cf _ HQ.out.2.2.1
    have q3 := cf _ HQ.out.2.2.2.1
    have q4 := cf _ HQ.out.2.2.2.2
    have HB2 := Lib.hid (show Below w.heap.size w w2 from (below_set_l (below_set_l HB.out (Nat.le_refl _)) (Nat.le_refl _)).trans (hb2.mono (by simp; omega)))
    clear hb2 c cf HR HQ HB HO n0 n1 n2 n3 n4 f2 f4
    go_wp2_with fail
    have k5 := set5 (v0 := .int .i64 k) (v1 := .string nd) (v2 := .string ⟨#[]⟩) (v3 := .int .i64 a) (v4 := .int .i64 0) r0 r1 r2 r3 r4
    exact bodyPost_ret (nm_res2 _ 2 3 rfl _ (.bool true) rfl rfl k5) rfl ⟨rfl, below_set5 HB2.out (Nat.le_succ _)⟩

set_option maxRecDepth 100000 in
set_option maxHeartbeats 4000000 in
theorem homeE_any (k : Int) (nd sv : ByteArray) (a b : Int) (w : World) (hE : EnvN w) (ha : I64 a) (hb : I64 b) (hn : nd.size ≤ 4000000000) :
    Calls Tryd.prog 19 #[nmV k nd sv a b] w fun e w' => e = .returned (.tuple #[homV k nd sv a b, .int .i64 (erS (nmO k nd sv a b))]) ∧ Below w.heap.size w w' := by
  have HC := Lib.hid (home_any k nd sv a b _ (hE.below (below_alloc_l (o := .cells #[.int .i64 0, .string ⟨#[]⟩, .string ⟨#[]⟩, .int .i64 0, .int .i64 0] 23) (below_alloc_l (o := .cells #[.int .i64 k, .string nd, .string sv, .int .i64 a, .int .i64 b] 23) (Below.refl _ _)))) ha hb hn)
  clear hE
  have HT1 := Lib.hid (fun W => tellN_ok k nd ⟨#[]⟩ a 0 W)
  have HT2 := Lib.hid (fun W => tellN_bad 0 ⟨#[]⟩ ⟨#[]⟩ 0 0 W)
  unfold erS
  unfold homV at *
  generalize nmR (nmO k nd sv a b) = r at *
  unfold nmV at *
  cases r with
  | false =>
    simp only [Bool.false_eq_true, if_false] at HC ⊢
    go_enter Tryd.func19, Tryd.ntmps19
    go_wp2_with fail
    refine HC.out.mono ?_
    rintro e w1 ⟨rfl, hb1⟩
    have r0 : w1.cell? ⟨w.heap.size + 1, 0, none⟩ = some (.int .i64 0) := (hb1.cell (p := ⟨w.heap.size + 1, 0, none⟩) (by simp; try omega)).trans (by go_simp)
    have r1 : w1.cell? ⟨w.heap.size + 1, 1, none⟩ = some (.string ⟨#[]⟩) := (hb1.cell (p := ⟨w.heap.size + 1, 1, none⟩) (by simp; try omega)).trans (by go_simp)
    have r2 : w1.cell? ⟨w.heap.size + 1, 2, none⟩ = some (.string ⟨#[]⟩) := (hb1.cell (p := ⟨w.heap.size + 1, 2, none⟩) (by simp; try omega)).trans (by go_simp)
    have r3 : w1.cell? ⟨w.heap.size + 1, 3, none⟩ = some (.int .i64 0) := (hb1.cell (p := ⟨w.heap.size + 1, 3, none⟩) (by simp; try omega)).trans (by go_simp)
    have r4 : w1.cell? ⟨w.heap.size + 1, 4, none⟩ = some (.int .i64 0) := (hb1.cell (p := ⟨w.heap.size + 1, 4, none⟩) (by simp; try omega)).trans (by go_simp)
    have q0 : w1.frozen? ⟨w.heap.size + 1, 0, none⟩ = false := (hb1.frozen (p := ⟨w.heap.size + 1, 0, none⟩) (by simp; try omega)).trans (by go_simp)
    have q1 : w1.frozen? ⟨w.heap.size + 1, 1, none⟩ = false := (hb1.frozen (p := ⟨w.heap.size + 1, 1, none⟩) (by simp; try omega)).trans (by go_simp)
    have q2 : w1.frozen? ⟨w.heap.size + 1, 2, none⟩ = false := (hb1.frozen (p := ⟨w.heap.size + 1, 2, none⟩) (by simp; try omega)).trans (by go_simp)
    have q3 : w1.frozen? ⟨w.heap.size + 1, 3, none⟩ = false := (hb1.frozen (p := ⟨w.heap.size + 1, 3, none⟩) (by simp; try omega)).trans (by go_simp)
    have q4 : w1.frozen? ⟨w.heap.size + 1, 4, none⟩ = false := (hb1.frozen (p := ⟨w.heap.size + 1, 4, none⟩) (by simp; try omega)).trans (by go_simp)
    have HB := Lib.hid (show Below w.heap.size w w1 from (below_alloc_l (below_alloc_l (Below.refl _ _))).trans (hb1.mono (by simp; omega)))
    clear hb1 HC
    go_wp2_with fail
    refine (HT2.out _).mono ?_
    rintro e w2 ⟨rfl, hb2⟩
    have c : ∀ {p : Addr} {v : Value}, w1.cell? p = some v → w2.cell? p = some v := fun e => (hb2.cell (World.block_lt_of_cell? _ _ e)).trans e
    have s0 := c r0
    have s1 := c r1
    have s2 := c r2
    have s3 := c r3
    have s4 := c r4
    have p0 := (hb2.frozen (World.block_lt_of_cell? _ _ r0)).trans q0
    have p1 := (hb2.frozen (World.block_lt_of_cell? _ _ r1)).trans q1
    have p2 := (hb2.frozen (World.block_lt_of_cell? _ _ r2)).trans q2
    have p3 := (hb2.frozen (World.block_lt_of_cell? _ _ r3)).trans q3
    have p4 := (hb2.frozen (World.block_lt_of_cell? _ _ r4)).trans q4
    have HB2 := Lib.hid (HB.out.trans (hb2.mono HB.out.size))
    clear hb2 HB r0 r1 r2 r3 r4 q0 q1 q2 q3 q4 HT1 HT2 c
    go_wp2_with fail
    have k5 := set5 (v0 := .int .i64 0) (v1 := .string ⟨#[]⟩) (v2 := .string ⟨#[]⟩) (v3 := .int .i64 0) (v4 := .int .i64 0) s0 s1 s2 s3 s4
    exact bodyPost_ret (nm_res2 _ 2 3 rfl _ (.int .i64 60) rfl rfl k5) rfl ⟨rfl, below_set5 HB2.out (Nat.le_succ _)⟩
  | true =>
    simp only [if_true] at HC ⊢
    go_enter Tryd.func19, Tryd.ntmps19
    go_wp2_with fail
    refine HC.out.mono ?_
    rintro e w1 ⟨rfl, hb1⟩
    have r0 : w1.cell? ⟨w.heap.size + 1, 0, none⟩ = some (.int .i64 0) := (hb1.cell (p := ⟨w.heap.size + 1, 0, none⟩) (by simp; try omega)).trans (by go_simp)
    have r1 : w1.cell? ⟨w.heap.size + 1, 1, none⟩ = some (.string ⟨#[]⟩) := (hb1.cell (p := ⟨w.heap.size + 1, 1, none⟩) (by simp; try omega)).trans (by go_simp)
    have r2 : w1.cell? ⟨w.heap.size + 1, 2, none⟩ = some (.string ⟨#[]⟩) := (hb1.cell (p := ⟨w.heap.size + 1, 2, none⟩) (by simp; try omega)).trans (by go_simp)
    have r3 : w1.cell? ⟨w.heap.size + 1, 3, none⟩ = some (.int .i64 0) := (hb1.cell (p := ⟨w.heap.size + 1, 3, none⟩) (by simp; try omega)).trans (by go_simp)
    have r4 : w1.cell? ⟨w.heap.size + 1, 4, none⟩ = some (.int .i64 0) := (hb1.cell (p := ⟨w.heap.size + 1, 4, none⟩) (by simp; try omega)).trans (by go_simp)
    have q0 : w1.frozen? ⟨w.heap.size + 1, 0, none⟩ = false := (hb1.frozen (p := ⟨w.heap.size + 1, 0, none⟩) (by simp; try omega)).trans (by go_simp)
    have q1 : w1.frozen? ⟨w.heap.size + 1, 1, none⟩ = false := (hb1.frozen (p := ⟨w.heap.size + 1, 1, none⟩) (by simp; try omega)).trans (by go_simp)
    have q2 : w1.frozen? ⟨w.heap.size + 1, 2, none⟩ = false := (hb1.frozen (p := ⟨w.heap.size + 1, 2, none⟩) (by simp; try omega)).trans (by go_simp)
    have q3 : w1.frozen? ⟨w.heap.size + 1, 3, none⟩ = false := (hb1.frozen (p := ⟨w.heap.size + 1, 3, none⟩) (by simp; try omega)).trans (by go_simp)
    have q4 : w1.frozen? ⟨w.heap.size + 1, 4, none⟩ = false := (hb1.frozen (p := ⟨w.heap.size + 1, 4, none⟩) (by simp; try omega)).trans (by go_simp)
    have HB := Lib.hid (show Below w.heap.size w w1 from (below_alloc_l (below_alloc_l (Below.refl _ _))).trans (hb1.mono (by simp; omega)))
    clear hb1 HC
    go_wp2_with fail
    refine (HT1.out _).mono ?_
    rintro e w2 ⟨rfl, hb2⟩
    have c : ∀ {p : Addr} {v : Value}, w1.cell? p = some v → w2.cell? p = some v := fun e => (hb2.cell (World.block_lt_of_cell? _ _ e)).trans e
    have s0 := c r0
    have s1 := c r1
    have s2 := c r2
    have s3 := c r3
    have s4 := c r4
    have p0 := (hb2.frozen (World.block_lt_of_cell? _ _ r0)).trans q0
    have p1 := (hb2.frozen (World.block_lt_of_cell? _ _ r1)).trans q1
    have p2 := (hb2.frozen (World.block_lt_of_cell? _ _ r2)).trans q2
    have p3 := (hb2.frozen (World.block_lt_of_cell? _ _ r3)).trans q3
    have p4 := (hb2.frozen (World.block_lt_of_cell? _ _ r4)).trans q4
    have HB2 := Lib.hid (HB.out.trans (hb2.mono HB.out.size))
    clear hb2 HB r0 r1 r2 r3 r4 q0 q1 q2 q3 q4 HT1 HT2 c
    go_wp2_with fail
    have k5 := set5 (v0 := .int .i64 k) (v1 := .string nd) (v2 := .string ⟨#[]⟩) (v3 := .int .i64 a) (v4 := .int .i64 0) s0 s1 s2 s3 s4
    exact bodyPost_ret (nm_res2 _ 2 3 rfl _ (.int .i64 0) rfl rfl k5) rfl ⟨rfl, below_set5 HB2.out (Nat.le_succ _)⟩
end Go.Proofs.YtmpokhdljlnllaaDoor
