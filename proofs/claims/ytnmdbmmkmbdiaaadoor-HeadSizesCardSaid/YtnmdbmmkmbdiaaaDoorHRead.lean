/- Contract of read of package head: the head at a place of a text, and the place behind it, or what is wrong. -/
import Derived.Test.YtnmdbmmkmbdiaaaDoorHArg
set_option linter.unusedVariables false
set_option linter.unusedSimpArgs false
namespace Go.Proofs.YtnmdbmmkmbdiaaaDoor
open Go.RowKit

/-- What holds of read's variables: the answer's box, the head's. -/
structure RS (r h : Nat) (m t n : Int) (W : World) : Prop where
  c0 : W.cell? ⟨r, 0, none⟩ = some (.int .i64 0)
  c1 : W.cell? ⟨r, 1, none⟩ = some (.int .i64 0)
  c2 : W.cell? ⟨r, 2, none⟩ = some (.int .i64 0)
  c3 : W.cell? ⟨r, 3, none⟩ = some (.int .i64 0)
  f0 : W.frozen? ⟨r, 0, none⟩ = false
  f1 : W.frozen? ⟨r, 1, none⟩ = false
  f2 : W.frozen? ⟨r, 2, none⟩ = false
  f3 : W.frozen? ⟨r, 3, none⟩ = false
  h0 : W.cell? ⟨h, 0, none⟩ = some (.int .i64 m)
  h1 : W.cell? ⟨h, 1, none⟩ = some (.int .i64 t)
  h2 : W.cell? ⟨h, 2, none⟩ = some (.int .i64 n)
  fh : W.frozen? ⟨h, 2, none⟩ = false

theorem RS.below {r h : Nat} {m t n : Int} {W W' : World} (hS : RS r h m t n W) (hb : Below W.heap.size W W') : RS r h m t n W' := by
  have c : ∀ {p : Addr} {v : Value}, W.cell? p = some v → W'.cell? p = some v := fun e => (hb.cell (World.block_lt_of_cell? _ _ e)).trans e
  have f : ∀ {p : Addr} {v : Value}, W.cell? p = some v → W.frozen? p = false → W'.frozen? p = false := fun e k => (hb.frozen (World.block_lt_of_cell? _ _ e)).trans k
  exact ⟨c hS.c0, c hS.c1, c hS.c2, c hS.c3, f hS.c0 hS.f0, f hS.c1 hS.f1, f hS.c2 hS.f2, f hS.c3 hS.f3, c hS.h0, c hS.h1, c hS.h2, f hS.h2 hS.fh⟩

theorem read_res {B : Nat} {x0 x1 x2 x3 v : Value} {W : World} {tmps : Array Value} (h0 : W.cell? ⟨B, 0, none⟩ = some x0) (h1 : W.cell? ⟨B, 1, none⟩ = some x1) (h2 : W.cell? ⟨B, 2, none⟩ = some x2) (h3 : W.cell? ⟨B, 3, none⟩ = some x3) (h4 : tmps[4]?.getD undef = .pointer (some ⟨B, 0, none⟩) := by rfl) (h5 : tmps[5]?.getD undef = v := by rfl) : (results Tryd.f25 tmps).run Tryd.prog W = .ok (.tuple #[.agg #[x0, x1, x2, x3], v]) W := by
  simp [results, Tryd.results25, go_sem, h4, h5, h0, h1, h2, h3]

theorem set4 {W : World} {B : Nat} {y0 y1 y2 y3 x0 x1 x2 x3 : Value} (h0 : W.cell? ⟨B, 0, none⟩ = some y0) (h1 : W.cell? ⟨B, 1, none⟩ = some y1) (h2 : W.cell? ⟨B, 2, none⟩ = some y2) (h3 : W.cell? ⟨B, 3, none⟩ = some y3) :
    let W' := (((W.setCell ⟨B, 0, none⟩ x0).setCell ⟨B, 1, none⟩ x1).setCell ⟨B, 2, none⟩ x2).setCell ⟨B, 3, none⟩ x3
    W'.cell? ⟨B, 0, none⟩ = some x0 ∧ W'.cell? ⟨B, 1, none⟩ = some x1 ∧ W'.cell? ⟨B, 2, none⟩ = some x2 ∧ W'.cell? ⟨B, 3, none⟩ = some x3 := by
  refine ⟨?_, ?_, ?_, ?_⟩
  · simp [go_sem, h0]
  · simp [go_sem, h1]
  · simp [go_sem, h2]
  · simp [go_sem, h3]

set_option maxRecDepth 100000 in
set_option maxHeartbeats 4000000 in
theorem read_bad (a0 a1 a2 b0 b1 b2 b3 b : Addr) (s : ByteArray) (at0 f e1 : Int) (w : World) (hN : Env a0 a1 a2 w) (hE : EnvH b0 b1 b2 b3 w) (hs : s.size ≤ maxLen) (hf : takeR s at0 1 = (f, e1)) (hf0 : 0 ≤ f) (hf1 : f ≤ 255)
    (p0 p1 p2 : Bool) (hp0 : (e1 == 0) = p0) (hp1 : majB (f / 32) = p1) (hp2 : decide (f % 32 ≤ 27) = p2) (hv : brk3 p0 p1 p2 b2 b3 b3 = sentV b) :
    Calls Tryd.prog 25 #[.string s, .int .i64 at0] w fun e w' => e = .returned (.tuple #[.agg #[.int .i64 0, .int .i64 0, .int .i64 0, .int .i64 0], sentV b]) ∧ Below w.heap.size w w' := by
  have HF := Lib.hid hf
  have H1 := Lib.hid hp1
  have HV := Lib.hid hv
  clear hf hp1 hv
  have hB0 := (Below.refl w.heap.size w).alloc (Nat.le_refl _) (.cells #[.int .i64 0, .int .i64 0, .int .i64 0, .int .i64 0] 50)
  go_enter Tryd.func25, Tryd.ntmps25
  go_wp2_with fail
  refine (take_any a0 a1 a2 s at0 1 _ (hN.below hB0) hs).mono ?_
  rintro e w1 ⟨rfl, hb1⟩
  rw [HF.out]
  have hz0 : w.heap.size < w1.heap.size := by have := hb1.size; simp at this; omega
  have hB1 := hB0.trans (hb1.mono hB0.size)
  have r0 : w1.cell? ⟨w.heap.size, 0, none⟩ = some (.int .i64 0) := (hb1.cell (p := ⟨w.heap.size, 0, none⟩) (by simp)).trans (by go_simp)
  have r1 : w1.cell? ⟨w.heap.size, 1, none⟩ = some (.int .i64 0) := (hb1.cell (p := ⟨w.heap.size, 1, none⟩) (by simp)).trans (by go_simp)
  have r2 : w1.cell? ⟨w.heap.size, 2, none⟩ = some (.int .i64 0) := (hb1.cell (p := ⟨w.heap.size, 2, none⟩) (by simp)).trans (by go_simp)
  have r3 : w1.cell? ⟨w.heap.size, 3, none⟩ = some (.int .i64 0) := (hb1.cell (p := ⟨w.heap.size, 3, none⟩) (by simp)).trans (by go_simp)
  have hE1 := hE.below hB1
  have q0 : w1.frozen? ⟨w.heap.size, 0, none⟩ = false := (hb1.frozen (p := ⟨w.heap.size, 0, none⟩) (by simp)).trans (by go_simp)
  have q1 : w1.frozen? ⟨w.heap.size, 1, none⟩ = false := (hb1.frozen (p := ⟨w.heap.size, 1, none⟩) (by simp)).trans (by go_simp)
  have q2 : w1.frozen? ⟨w.heap.size, 2, none⟩ = false := (hb1.frozen (p := ⟨w.heap.size, 2, none⟩) (by simp)).trans (by go_simp)
  have q3 : w1.frozen? ⟨w.heap.size, 3, none⟩ = false := (hb1.frozen (p := ⟨w.heap.size, 3, none⟩) (by simp)).trans (by go_simp)
  clear hb1 hB0
  go_wp2_with fail
  generalize f / 32 = m at *
  generalize f % 32 = t at *
  have hS2 : RS w.heap.size w1.heap.size m t 0 (w1.alloc (.cells #[.int .i64 m, .int .i64 t, .int .i64 0] 48)) := by constructor <;> go_simp
  have hE2 := hE1.below ((Below.refl w1.heap.size w1).alloc (Nat.le_refl _) (.cells #[.int .i64 m, .int .i64 t, .int .i64 0] 48))
  have hB2 := hB1.alloc hB1.size (.cells #[.int .i64 m, .int .i64 t, .int .i64 0] 48)
  generalize w1.alloc (.cells #[.int .i64 m, .int .i64 t, .int .i64 0] 48) = w2 at *
  clear r0 r1 r2 r3 q0 q1 q2 q3 hB1 hE1
  generalize w1.heap.size = h at *
  have g2 := hE2.g2
  have g3 := hE2.g3
  have i0 := hS2.h0
  have i1 := hS2.h1
  have hz2 := World.block_lt_of_cell? _ _ g2
  have hz3 := World.block_lt_of_cell? _ _ g3
  have hzh := World.block_lt_of_cell? _ _ i0
  simp only at hz2 hz3 hzh
  go_region_held3 (fun w' => w'.cell? ⟨2, 0, none⟩ = some (sentV b2) ∧ w'.cell? ⟨3, 0, none⟩ = some (sentV b3) ∧ w'.cell? ⟨h, 0, none⟩ = some (.int .i64 m) ∧ w'.cell? ⟨h, 1, none⟩ = some (.int .i64 t))
    (first
      | exact ⟨g2, g3, i0, i1⟩
      | exact ⟨(hb3.cell (p := ⟨2, 0, none⟩) (by simp <;> omega)).trans (by go_simp), (hb3.cell (p := ⟨3, 0, none⟩) (by simp <;> omega)).trans (by go_simp), (hb3.cell (p := ⟨h, 0, none⟩) (by simp <;> omega)).trans (by go_simp), (hb3.cell (p := ⟨h, 1, none⟩) (by simp <;> omega)).trans (by go_simp)⟩
      | go_keep)
    (first
      | ((go_at_call 29; refine (major_any _ _).mono ?_; rintro e w' ⟨rfl, rfl⟩; rw [H1.out]))
      | ((go_at_call 28; refine (broken3_any _ p0 p1 p2 b2 b3 b3 _ ?_ ?_ ?_ ?_ ?_ ?_).mono ?_; go_simp; go_simp; go_simp; go_simp; go_simp; go_simp; rintro e w3 ⟨rfl, hb3⟩)))
  have hb3' : Below w2.heap.size w2 w3 := ((Below.refl w2.heap.size w2).drew.alloc (by simp) _).trans (hb3.mono (by simp))
  have hB3 := hB2.trans (hb3'.mono hB2.size)
  have hS3 := hS2.below hb3'
  clear hb3 hb3' hS2 hE2 hB2 g2 g3 i0 i1 hz2 hz3 hzh
  rw [HV.out]
  have c0 := hS3.c0
  have c1 := hS3.c1
  have c2 := hS3.c2
  have c3 := hS3.c3
  have f0 := hS3.f0
  have f1 := hS3.f1
  have f2 := hS3.f2
  have f3 := hS3.f3
  go_wp2
  obtain ⟨k0, k1, k2, k3⟩ := set4 (x0 := .int .i64 0) (x1 := .int .i64 0) (x2 := .int .i64 0) (x3 := .int .i64 0) c0 c1 c2 c3
  exact bodyPost_ret (read_res k0 k1 k2 k3) rfl ⟨rfl, (((hB3.setCell (p := ⟨w.heap.size, 0, none⟩) (Nat.le_refl _) _).setCell (p := ⟨w.heap.size, 1, none⟩) (Nat.le_refl _) _).setCell (p := ⟨w.heap.size, 2, none⟩) (Nat.le_refl _) _).setCell (p := ⟨w.heap.size, 3, none⟩) (Nat.le_refl _) _⟩
end Go.Proofs.YtnmdbmmkmbdiaaaDoor
