/- Contract of argument of package head: what is added to a first byte, or what stands behind it. -/
import Derived.Test.YtmbmolgkccjedaaGreatDoorM3
import Derived.Deep.RegionHeld3
import Derived.IntWalk
set_option linter.unusedVariables false
set_option linter.unusedSimpArgs false
namespace Go.Proofs.YtmbmolgkccjedaaGreatDoor
open Go.RowKit

/-- What argument answers. -/
def argR (s : ByteArray) (at0 t : Int) : Int × Int := if widI t = 0 then (t, 0) else takeR s at0 (widI t)

set_option maxRecDepth 100000 in
set_option maxHeartbeats 1000000 in
theorem argument_none (b0 b1 b2 b3 : Addr) (s : ByteArray) (at0 m t n : Int) (w : World) (hE : EnvH b0 b1 b2 b3 w) (hk : widI t = 0) :
    Calls Tryz.prog 194 #[.string s, .int .i64 at0, .agg #[.int .i64 m, .int .i64 t, .int .i64 n]] w fun e w' => e = .returned (.tuple #[.int .i64 t, .int .i64 0]) ∧ Below w.heap.size w w' := by
  have HK := Lib.hid hk
  clear hk
  have hB0 := (Below.refl w.heap.size w).alloc (Nat.le_refl _) (.cells #[.int .i64 m, .int .i64 t, .int .i64 n] 209)
  go_enter Tryz.func194, Tryz.ntmps194
  go_wp2_with fail
  refine (hwidth_any b0 b1 b2 b3 _ _ _ _ (hE.below hB0)).mono ?_
  rintro e w1 ⟨rfl, hb1⟩
  rw [HK.out]
  have i1 : w1.cell? ⟨w.heap.size, 1, none⟩ = some (.int .i64 t) := (hb1.cell (p := ⟨w.heap.size, 1, none⟩) (by simp)).trans (by go_simp)
  have hB1 := hB0.trans (hb1.mono hB0.size)
  clear hb1 hB0
  go_wp2
  go_ret2
  exact ⟨rfl, hB1⟩

set_option maxRecDepth 100000 in
set_option maxHeartbeats 1000000 in
theorem argument_some (a0 a1 a2 b0 b1 b2 b3 : Addr) (s : ByteArray) (at0 m t n k : Int) (w : World) (hN : Env a0 a1 a2 w) (hE : EnvH b0 b1 b2 b3 w) (hs : s.size ≤ maxLen) (hk : widI t = k) (hk0 : k ≠ 0) (x e : Int) (hx : takeR s at0 k = (x, e)) :
    Calls Tryz.prog 194 #[.string s, .int .i64 at0, .agg #[.int .i64 m, .int .i64 t, .int .i64 n]] w fun e' w' => e' = .returned (.tuple #[.int .i64 x, .int .i64 e]) ∧ Below w.heap.size w w' := by
  have HK := Lib.hid hk
  have HX := Lib.hid hx
  have hkb : (k == 0) = false := by simpa using hk0
  clear hk hk0 hx
  have hB0 := (Below.refl w.heap.size w).alloc (Nat.le_refl _) (.cells #[.int .i64 m, .int .i64 t, .int .i64 n] 209)
  go_enter Tryz.func194, Tryz.ntmps194
  go_wp2_with fail
  refine (hwidth_any b0 b1 b2 b3 _ _ _ _ (hE.below hB0)).mono ?_
  rintro e w1 ⟨rfl, hb1⟩
  rw [HK.out]
  have i0 : w1.cell? ⟨w.heap.size, 0, none⟩ = some (.int .i64 m) := (hb1.cell (p := ⟨w.heap.size, 0, none⟩) (by simp)).trans (by go_simp)
  have i1 : w1.cell? ⟨w.heap.size, 1, none⟩ = some (.int .i64 t) := (hb1.cell (p := ⟨w.heap.size, 1, none⟩) (by simp)).trans (by go_simp)
  have i2 : w1.cell? ⟨w.heap.size, 2, none⟩ = some (.int .i64 n) := (hb1.cell (p := ⟨w.heap.size, 2, none⟩) (by simp)).trans (by go_simp)
  have hB1 := hB0.trans (hb1.mono hB0.size)
  clear hb1 hB0
  go_wp2_with fail
  refine (hwidth_any b0 b1 b2 b3 _ _ _ _ (hE.below hB1)).mono ?_
  rintro e w2 ⟨rfl, hb2⟩
  rw [HK.out]
  have hB2 := hB1.trans (hb2.mono hB1.size)
  clear hb2 hB1 i0 i1 i2
  go_wp2_with fail
  refine (take_any a0 a1 a2 _ _ _ _ (hN.below hB2) hs).mono ?_
  rintro e w3 ⟨rfl, hb3⟩
  rw [HX.out]
  have hB3 := hB2.trans (hb3.mono hB2.size)
  clear hb3 hB2
  go_wp2
  go_ret2
  exact ⟨rfl, hB3⟩

theorem argument_any (a0 a1 a2 b0 b1 b2 b3 : Addr) (s : ByteArray) (at0 m t n : Int) (w : World) (hN : Env a0 a1 a2 w) (hE : EnvH b0 b1 b2 b3 w) (hs : s.size ≤ maxLen) :
    Calls Tryz.prog 194 #[.string s, .int .i64 at0, .agg #[.int .i64 m, .int .i64 t, .int .i64 n]] w fun e w' => e = .returned (.tuple #[.int .i64 (argR s at0 t).1, .int .i64 (argR s at0 t).2]) ∧ Below w.heap.size w w' := by
  unfold argR
  by_cases hk : widI t = 0
  · rw [if_pos hk]; exact argument_none b0 b1 b2 b3 s at0 m t n w hE hk
  · rw [if_neg hk]; exact argument_some a0 a1 a2 b0 b1 b2 b3 s at0 m t n _ w hN hE hs rfl hk _ _ rfl
end Go.Proofs.YtmbmolgkccjedaaGreatDoor

/- Contract of read of package head: the head at a place of a text, and the place behind it, or what is wrong. -/
set_option linter.unusedVariables false
set_option linter.unusedSimpArgs false
namespace Go.Proofs.YtmbmolgkccjedaaGreatDoor
open Go.RowKit

/-- What holds of read's variables: the answer's box, the head's. -/
structure RS (r h : Nat) (m t n : Int) (W : World) : Prop where
  c0 : W.cell? ⟨r, 0, none⟩ = some (.int .i64 0)
  c1 : W.cell? ⟨r, 1, none⟩ = some (.int .i64 0)
  c2 : W.cell? ⟨r, 2, none⟩ = some (.int .i64 0)
  c3 : W.cell? ⟨r, 3, none⟩ = some (.int .i64 0)
  f0 : W.frozen? ⟨r, 0, none⟩ = false
  f1 : W.frozen? ⟨r, 1, none⟩ = false
  f2 : W.frozen? ⟨r, 2, none⟩ = false
  f3 : W.frozen? ⟨r, 3, none⟩ = false
  h0 : W.cell? ⟨h, 0, none⟩ = some (.int .i64 m)
  h1 : W.cell? ⟨h, 1, none⟩ = some (.int .i64 t)
  h2 : W.cell? ⟨h, 2, none⟩ = some (.int .i64 n)
  fh : W.frozen? ⟨h, 2, none⟩ = false

theorem RS.below {r h : Nat} {m t n : Int} {W W' : World} (hS : RS r h m t n W) (hb : Below W.heap.size W W') : RS r h m t n W' := by
  have c : ∀ {p : Addr} {v : Value}, W.cell? p = some v → W'.cell? p = some v := fun e => (hb.cell (World.block_lt_of_cell? _ _ e)).trans e
  have f : ∀ {p : Addr} {v : Value}, W.cell? p = some v → W.frozen? p = false → W'.frozen? p = false := fun e k => (hb.frozen (World.block_lt_of_cell? _ _ e)).trans k
  exact ⟨c hS.c0, c hS.c1, c hS.c2, c hS.c3, f hS.c0 hS.f0, f hS.c1 hS.f1, f hS.c2 hS.f2, f hS.c3 hS.f3, c hS.h0, c hS.h1, c hS.h2, f hS.h2 hS.fh⟩

theorem read_res {B : Nat} {x0 x1 x2 x3 v : Value} {W : World} {tmps : Array Value} (h0 : W.cell? ⟨B, 0, none⟩ = some x0) (h1 : W.cell? ⟨B, 1, none⟩ = some x1) (h2 : W.cell? ⟨B, 2, none⟩ = some x2) (h3 : W.cell? ⟨B, 3, none⟩ = some x3) (h4 : tmps[4]?.getD undef = .pointer (some ⟨B, 0, none⟩) := by rfl) (h5 : tmps[5]?.getD undef = v := by rfl) : (results Tryz.f177 tmps).run Tryz.prog W = .ok (.tuple #[.agg #[x0, x1, x2, x3], v]) W := by
  simp [results, Tryz.results177, go_sem, h4, h5, h0, h1, h2, h3]

theorem set4 {W : World} {B : Nat} {y0 y1 y2 y3 x0 x1 x2 x3 : Value} (h0 : W.cell? ⟨B, 0, none⟩ = some y0) (h1 : W.cell? ⟨B, 1, none⟩ = some y1) (h2 : W.cell? ⟨B, 2, none⟩ = some y2) (h3 : W.cell? ⟨B, 3, none⟩ = some y3) :
    let W' := (((W.setCell ⟨B, 0, none⟩ x0).setCell ⟨B, 1, none⟩ x1).setCell ⟨B, 2, none⟩ x2).setCell ⟨B, 3, none⟩ x3
    W'.cell? ⟨B, 0, none⟩ = some x0 ∧ W'.cell? ⟨B, 1, none⟩ = some x1 ∧ W'.cell? ⟨B, 2, none⟩ = some x2 ∧ W'.cell? ⟨B, 3, none⟩ = some x3 := by
  refine ⟨?_, ?_, ?_, ?_⟩
  · simp [go_sem, h0]
  · simp [go_sem, h1]
  · simp [go_sem, h2]
  · simp [go_sem, h3]

set_option maxRecDepth 100000 in
set_option maxHeartbeats 4000000 in
theorem read_bad (a0 a1 a2 b0 b1 b2 b3 b : Addr) (s : ByteArray) (at0 f e1 : Int) (w : World) (hN : Env a0 a1 a2 w) (hE : EnvH b0 b1 b2 b3 w) (hs : s.size ≤ maxLen) (hf : takeR s at0 1 = (f, e1)) (hf0 : 0 ≤ f) (hf1 : f ≤ 255)
    (p0 p1 p2 : Bool) (hp0 : (e1 == 0) = p0) (hp1 : majB (f / 32) = p1) (hp2 : decide (f % 32 ≤ 27) = p2) (hv : brk3 p0 p1 p2 b2 b3 b3 = sentV b) :
    Calls Tryz.prog 177 #[.string s, .int .i64 at0] w fun e w' => e = .returned (.tuple #[.agg #[.int .i64 0, .int .i64 0, .int .i64 0, .int .i64 0], sentV b]) ∧ Below w.heap.size w w' := by
  have HF := Lib.hid hf
  have H1 := Lib.hid hp1
  have HV := Lib.hid hv
  clear hf hp1 hv
  have hB0 := (Below.refl w.heap.size w).alloc (Nat.le_refl _) (.cells #[.int .i64 0, .int .i64 0, .int .i64 0, .int .i64 0] 268)
  go_enter Tryz.func177, Tryz.ntmps177
  go_wp2_with fail
  refine (take_any a0 a1 a2 s at0 1 _ (hN.below hB0) hs).mono ?_
  rintro e w1 ⟨rfl, hb1⟩
  rw [HF.out]
  have hz0 : w.heap.size < w1.heap.size := by have := hb1.size; simp at this; omega
  have hB1 := hB0.trans (hb1.mono hB0.size)
  have r0 : w1.cell? ⟨w.heap.size, 0, none⟩ = some (.int .i64 0) := (hb1.cell (p := ⟨w.heap.size, 0, none⟩) (by simp)).trans (by go_simp)
  have r1 : w1.cell? ⟨w.heap.size, 1, none⟩ = some (.int .i64 0) := (hb1.cell (p := ⟨w.heap.size, 1, none⟩) (by simp)).trans (by go_simp)
  have r2 : w1.cell? ⟨w.heap.size, 2, none⟩ = some (.int .i64 0) := (hb1.cell (p := ⟨w.heap.size, 2, none⟩) (by simp)).trans (by go_simp)
  have r3 : w1.cell? ⟨w.heap.size, 3, none⟩ = some (.int .i64 0) := (hb1.cell (p := ⟨w.heap.size, 3, none⟩) (by simp)).trans (by go_simp)
  have hE1 := hE.below hB1
  have q0 : w1.frozen? ⟨w.heap.size, 0, none⟩ = false := (hb1.frozen (p := ⟨w.heap.size, 0, none⟩) (by simp)).trans (by go_simp)
  have q1 : w1.frozen? ⟨w.heap.size, 1, none⟩ = false := (hb1.frozen (p := ⟨w.heap.size, 1, none⟩) (by simp)).trans (by go_simp)
  have q2 : w1.frozen? ⟨w.heap.size, 2, none⟩ = false := (hb1.frozen (p := ⟨w.heap.size, 2, none⟩) (by simp)).trans (by go_simp)
  have q3 : w1.frozen? ⟨w.heap.size, 3, none⟩ = false := (hb1.frozen (p := ⟨w.heap.size, 3, none⟩) (by simp)).trans (by go_simp)
  clear hb1 hB0
  go_wp2_with fail
  generalize f / 32 = m at *
  generalize f % 32 = t at *
  have hS2 : RS w.heap.size w1.heap.size m t 0 (w1.alloc (.cells #[.int .i64 m, .int .i64 t, .int .i64 0] 209)) := by constructor <;> go_simp
  have hE2 := hE1.below ((Below.refl w1.heap.size w1).alloc (Nat.le_refl _) (.cells #[.int .i64 m, .int .i64 t, .int .i64 0] 209))
  have hB2 := hB1.alloc hB1.size (.cells #[.int .i64 m, .int .i64 t, .int .i64 0] 209)
  generalize w1.alloc (.cells #[.int .i64 m, .int .i64 t, .int .i64 0] 209) = w2 at *
  clear r0 r1 r2 r3 q0 q1 q2 q3 hB1 hE1
  generalize w1.heap.size = h at *
  have g2 := hE2.g2
  have g3 := hE2.g3
  have i0 := hS2.h0
  have i1 := hS2.h1
  have hz2 := World.block_lt_of_cell? _ _ g2
  have hz3 := World.block_lt_of_cell? _ _ g3
  have hzh := World.block_lt_of_cell? _ _ i0
  simp only at hz2 hz3 hzh
  go_region_held3 (fun w' => w'.cell? ⟨3, 0, none⟩ = some (sentV b2) ∧ w'.cell? ⟨11, 0, none⟩ = some (sentV b3) ∧ w'.cell? ⟨h, 0, none⟩ = some (.int .i64 m) ∧ w'.cell? ⟨h, 1, none⟩ = some (.int .i64 t))
    (first
      | exact ⟨g2, g3, i0, i1⟩
      | exact ⟨(hb3.cell (p := ⟨3, 0, none⟩) (by simp <;> omega)).trans (by go_simp), (hb3.cell (p := ⟨11, 0, none⟩) (by simp <;> omega)).trans (by go_simp), (hb3.cell (p := ⟨h, 0, none⟩) (by simp <;> omega)).trans (by go_simp), (hb3.cell (p := ⟨h, 1, none⟩) (by simp <;> omega)).trans (by go_simp)⟩
      | go_keep)
    (first
      | ((go_at_call 129; refine (major_any _ _).mono ?_; rintro e w' ⟨rfl, rfl⟩; rw [H1.out]))
      | ((go_at_call 128; refine (broken3_any _ p0 p1 p2 b2 b3 b3 _ ?_ ?_ ?_ ?_ ?_ ?_).mono ?_; go_simp; go_simp; go_simp; go_simp; go_simp; go_simp; rintro e w3 ⟨rfl, hb3⟩)))
  have hb3' : Below w2.heap.size w2 w3 := ((Below.refl w2.heap.size w2).drew.alloc (by simp) _).trans (hb3.mono (by simp))
  have hB3 := hB2.trans (hb3'.mono hB2.size)
  have hS3 := hS2.below hb3'
  clear hb3 hb3' hS2 hE2 hB2 g2 g3 i0 i1 hz2 hz3 hzh
  rw [HV.out]
  have c0 := hS3.c0
  have c1 := hS3.c1
  have c2 := hS3.c2
  have c3 := hS3.c3
  have f0 := hS3.f0
  have f1 := hS3.f1
  have f2 := hS3.f2
  have f3 := hS3.f3
  go_wp2
  obtain ⟨k0, k1, k2, k3⟩ := set4 (x0 := .int .i64 0) (x1 := .int .i64 0) (x2 := .int .i64 0) (x3 := .int .i64 0) c0 c1 c2 c3
  exact bodyPost_ret (read_res k0 k1 k2 k3) rfl ⟨rfl, (((hB3.setCell (p := ⟨w.heap.size, 0, none⟩) (Nat.le_refl _) _).setCell (p := ⟨w.heap.size, 1, none⟩) (Nat.le_refl _) _).setCell (p := ⟨w.heap.size, 2, none⟩) (Nat.le_refl _) _).setCell (p := ⟨w.heap.size, 3, none⟩) (Nat.le_refl _) _⟩
end Go.Proofs.YtmbmolgkccjedaaGreatDoor

/- Contract of read of package head, where the first byte is a head's. -/
set_option linter.unusedVariables false
set_option linter.unusedSimpArgs false
namespace Go.Proofs.YtmbmolgkccjedaaGreatDoor
open Go.RowKit

theorem head_eql (m t x g : Int) (u : Bool) (hu : (t == g) = u) (w : World) : (binOp .eql 209 (.agg #[.int .i64 m, .int .i64 t, .int .i64 x]) (.agg #[.int .i64 m, .int .i64 g, .int .i64 x])).run Tryz.prog w = .ok (.bool u) w := by
  cases u <;> go_simp

theorem RS.setN {r h : Nat} {m t n : Int} {W : World} (hS : RS r h m t n W) (hne : h ≠ r) (x : Int) : RS r h m t x (W.setCell ⟨h, 2, none⟩ (.int .i64 x)) := by
  have hne' := Ne.symm hne
  refine ⟨?_, ?_, ?_, ?_, ?_, ?_, ?_, ?_, ?_, ?_, World.cell?_setCell_same' _ _ _ (by rw [hS.h2]; rfl), ?_⟩
  · rw [← hS.c0]; simp [go_sem, hne, hne']
  · rw [← hS.c1]; simp [go_sem, hne, hne']
  · rw [← hS.c2]; simp [go_sem, hne, hne']
  · rw [← hS.c3]; simp [go_sem, hne, hne']
  · rw [World.frozen?_setCell]; exact hS.f0
  · rw [World.frozen?_setCell]; exact hS.f1
  · rw [World.frozen?_setCell]; exact hS.f2
  · rw [World.frozen?_setCell]; exact hS.f3
  · rw [← hS.h0]; simp [go_sem]
  · rw [← hS.h1]; simp [go_sem]
  · rw [World.frozen?_setCell]; exact hS.fh

theorem set4_other {W : World} {B b i : Nat} {x0 x1 x2 x3 : Value} (hne : b ≠ B) : ((((W.setCell ⟨B, 0, none⟩ x0).setCell ⟨B, 1, none⟩ x1).setCell ⟨B, 2, none⟩ x2).setCell ⟨B, 3, none⟩ x3).cell? ⟨b, i, none⟩ = W.cell? ⟨b, i, none⟩ := by
  have hne' := Ne.symm hne
  simp [go_sem, hne, hne']

set_option maxRecDepth 100000 in
set_option maxHeartbeats 8000000 in
theorem read_go (a0 a1 a2 b0 b1 b2 b3 : Addr) (s : ByteArray) (at0 f e1 : Int) (w : World) (hN : Env a0 a1 a2 w) (hE : EnvH b0 b1 b2 b3 w) (hs : s.size ≤ maxLen) (ha0 : 0 ≤ at0) (ha1 : at0 ≤ 1000000) (hf : takeR s at0 1 = (f, e1)) (hf0 : 0 ≤ f) (hf1 : f ≤ 255) (m t : Int) (hm : f / 32 = m) (ht : f % 32 = t)
    (p0 p1 p2 : Bool) (hp0 : (e1 == 0) = p0) (hp1 : majB (m) = p1) (hp2 : decide (t ≤ 27) = p2) (hv : brk3 p0 p1 p2 b2 b3 b3 = .nilIface)
    (x : Nat) (e2 : Int) (hx : argR s (at0 + 1) (t) = ((x : Int), e2)) (hxm : x ≤ 281474976710655) (u0 u1 u2 : Bool) (hu0 : (e2 != 11) = u0) (hu1 : (e2 != 10) = u1) (g : Int) (hg : ((tagN x : Nat) : Int) = g) (hu2 : (t == g) = u2) (k : Int) (hk : widI (t) = k) (hk0 : 0 ≤ k) (hk8 : k ≤ 8) (v : Value) (hvv : brk3 u0 u1 u2 b2 b1 b3 = v) :
    Calls Tryz.prog 177 #[.string s, .int .i64 at0] w fun e w' => e = .returned (.tuple #[.agg #[.int .i64 (m), .int .i64 (t), .int .i64 (x : Int), .int .i64 (at0 + 1 + k)], v]) ∧ Below w.heap.size w w' := by
  have HF := Lib.hid hf
  have HM := Lib.hid hm
  have HT := Lib.hid ht
  have H1 := Lib.hid hp1
  have HV := Lib.hid hv
  have HX := Lib.hid hx
  have HG := Lib.hid hg
  have HK := Lib.hid hk
  have HVV := Lib.hid hvv
  have H2 := Lib.hid hu2
  clear hm ht hf hp1 hv hx hg hk hvv hu2
  have hB0 := (Below.refl w.heap.size w).alloc (Nat.le_refl _) (.cells #[.int .i64 0, .int .i64 0, .int .i64 0, .int .i64 0] 268)
  go_enter Tryz.func177, Tryz.ntmps177
  go_wp2_with fail
  refine (take_any a0 a1 a2 s at0 1 _ (hN.below hB0) hs).mono ?_
  rintro e w1 ⟨rfl, hb1⟩
  rw [HF.out]
  have hz0 : w.heap.size < w1.heap.size := by have := hb1.size; simp at this; omega
  have hB1 := hB0.trans (hb1.mono hB0.size)
  have r0 : w1.cell? ⟨w.heap.size, 0, none⟩ = some (.int .i64 0) := (hb1.cell (p := ⟨w.heap.size, 0, none⟩) (by simp)).trans (by go_simp)
  have r1 : w1.cell? ⟨w.heap.size, 1, none⟩ = some (.int .i64 0) := (hb1.cell (p := ⟨w.heap.size, 1, none⟩) (by simp)).trans (by go_simp)
  have r2 : w1.cell? ⟨w.heap.size, 2, none⟩ = some (.int .i64 0) := (hb1.cell (p := ⟨w.heap.size, 2, none⟩) (by simp)).trans (by go_simp)
  have r3 : w1.cell? ⟨w.heap.size, 3, none⟩ = some (.int .i64 0) := (hb1.cell (p := ⟨w.heap.size, 3, none⟩) (by simp)).trans (by go_simp)
  have hE1 := hE.below hB1
  have q0 : w1.frozen? ⟨w.heap.size, 0, none⟩ = false := (hb1.frozen (p := ⟨w.heap.size, 0, none⟩) (by simp)).trans (by go_simp)
  have q1 : w1.frozen? ⟨w.heap.size, 1, none⟩ = false := (hb1.frozen (p := ⟨w.heap.size, 1, none⟩) (by simp)).trans (by go_simp)
  have q2 : w1.frozen? ⟨w.heap.size, 2, none⟩ = false := (hb1.frozen (p := ⟨w.heap.size, 2, none⟩) (by simp)).trans (by go_simp)
  have q3 : w1.frozen? ⟨w.heap.size, 3, none⟩ = false := (hb1.frozen (p := ⟨w.heap.size, 3, none⟩) (by simp)).trans (by go_simp)
  clear hb1 hB0
  go_wp2_with fail
  rw [HM.out, HT.out]
  have hS2 : RS w.heap.size w1.heap.size m t 0 (w1.alloc (.cells #[.int .i64 m, .int .i64 t, .int .i64 0] 209)) := by constructor <;> go_simp
  have hE2 := hE1.below ((Below.refl w1.heap.size w1).alloc (Nat.le_refl _) (.cells #[.int .i64 m, .int .i64 t, .int .i64 0] 209))
  have hB2 := hB1.alloc hB1.size (.cells #[.int .i64 m, .int .i64 t, .int .i64 0] 209)
  generalize w1.alloc (.cells #[.int .i64 m, .int .i64 t, .int .i64 0] 209) = w2 at *
  have hne : w1.heap.size ≠ w.heap.size := by omega
  clear r0 r1 r2 r3 q0 q1 q2 q3 hB1 hE1
  generalize w1.heap.size = h at *
  have g2 := hE2.g2
  have g3 := hE2.g3
  have i0 := hS2.h0
  have i1 := hS2.h1
  have hz2 := World.block_lt_of_cell? _ _ g2
  have hz3 := World.block_lt_of_cell? _ _ g3
  have hzh := World.block_lt_of_cell? _ _ i0
  simp only at hz2 hz3 hzh
  go_region_held3 (fun w' => w'.cell? ⟨3, 0, none⟩ = some (sentV b2) ∧ w'.cell? ⟨11, 0, none⟩ = some (sentV b3) ∧ w'.cell? ⟨h, 0, none⟩ = some (.int .i64 m) ∧ w'.cell? ⟨h, 1, none⟩ = some (.int .i64 t))
    (first
      | exact ⟨g2, g3, i0, i1⟩
      | exact ⟨(hb3.cell (p := ⟨3, 0, none⟩) (by simp <;> omega)).trans (by go_simp), (hb3.cell (p := ⟨11, 0, none⟩) (by simp <;> omega)).trans (by go_simp), (hb3.cell (p := ⟨h, 0, none⟩) (by simp <;> omega)).trans (by go_simp), (hb3.cell (p := ⟨h, 1, none⟩) (by simp <;> omega)).trans (by go_simp)⟩
      | go_keep)
    (first
      | ((go_at_call 129; refine (major_any _ _).mono ?_; rintro e w' ⟨rfl, rfl⟩; rw [H1.out]))
      | ((go_at_call 128; refine (broken3_any _ p0 p1 p2 b2 b3 b3 _ ?_ ?_ ?_ ?_ ?_ ?_).mono ?_; go_simp; go_simp; go_simp; go_simp; go_simp; go_simp; rintro e w3 ⟨rfl, hb3⟩)))
  have hb3' : Below w2.heap.size w2 w3 := ((Below.refl w2.heap.size w2).drew.alloc (by simp) _).trans (hb3.mono (by simp))
  have hB3 := hB2.trans (hb3'.mono hB2.size)
  have hS3 := hS2.below hb3'
  have hE3 := hE2.below hb3'
  clear hb3 hb3' hS2 hE2 hB2 g2 g3 i0 i1 hz2 hz3 hzh
  rw [HV.out]
  have i0 := hS3.h0
  have i1 := hS3.h1
  have i2 := hS3.h2
  have fh := hS3.fh
  have hN3 := hN.below hB3
  go_wp2_with fail
  refine (argument_any a0 a1 a2 b0 b1 b2 b3 s _ m t 0 _ hN3 hE3 hs).mono ?_
  rintro e w4 ⟨rfl, hb4⟩
  rw [HX.out]
  have hS4 := hS3.below hb4
  have hE4 := hE3.below hb4
  have hN4 := hN3.below hb4
  have hB4 := hB3.trans (hb4.mono hB3.size)
  clear i0 i1 i2 fh hb4 hS3 hE3 hN3 hB3
  have i2 := hS4.h2
  have fh := hS4.fh
  go_wp2_with fail
  have hS5 := hS4.setN hne (x : Int)
  have hB5 := hB4.setCell (p := ⟨h, 2, none⟩) (Nat.le_of_lt hz0) (.int .i64 (x : Int))
  clear i2 fh hS4 hE4 hN4 hB4
  generalize w4.setCell ⟨h, 2, none⟩ (.int .i64 (x : Int)) = w5 at *
  have hE5 := hE.below hB5
  have hN5 := hN.below hB5
  have g1 := hE5.g1
  have g2 := hE5.g2
  have g3 := hE5.g3
  have i0 := hS5.h0
  have i1 := hS5.h1
  have i2 := hS5.h2
  have hz1 := World.block_lt_of_cell? _ _ g1
  have hz2 := World.block_lt_of_cell? _ _ g2
  have hz3 := World.block_lt_of_cell? _ _ g3
  have hzh := World.block_lt_of_cell? _ _ i0
  simp only at hz1 hz2 hz3 hzh
  have hN5d := hN5.below (Below.refl _ w5).drew
  have hE5d := hE5.below (Below.refl _ w5).drew
  have heq := head_eql m t x g u2 H2.out
  go_region_held3 (fun w' => w'.cell? ⟨2, 0, none⟩ = some (sentV b1) ∧ w'.cell? ⟨3, 0, none⟩ = some (sentV b2) ∧ w'.cell? ⟨11, 0, none⟩ = some (sentV b3) ∧ w'.cell? ⟨h, 0, none⟩ = some (.int .i64 m) ∧ w'.cell? ⟨h, 1, none⟩ = some (.int .i64 t) ∧ w'.cell? ⟨h, 2, none⟩ = some (.int .i64 (x : Int)))
    (first
      | exact ⟨g1, g2, g3, i0, i1, i2⟩
      | exact ⟨(hb6.cell hz1).trans g1, (hb6.cell hz2).trans g2, (hb6.cell hz3).trans g3, (hb6.cell (p := ⟨h, 0, none⟩) hzh).trans i0, (hb6.cell (p := ⟨h, 1, none⟩) hzh).trans i1, (hb6.cell (p := ⟨h, 2, none⟩) hzh).trans i2⟩
      | exact ⟨(hb7.cell (p := ⟨2, 0, none⟩) (by simp <;> omega)).trans (by go_simp), (hb7.cell (p := ⟨3, 0, none⟩) (by simp <;> omega)).trans (by go_simp), (hb7.cell (p := ⟨11, 0, none⟩) (by simp <;> omega)).trans (by go_simp), (hb7.cell (p := ⟨h, 0, none⟩) (by simp <;> omega)).trans (by go_simp), (hb7.cell (p := ⟨h, 1, none⟩) (by simp <;> omega)).trans (by go_simp), (hb7.cell (p := ⟨h, 2, none⟩) (by simp <;> omega)).trans (by go_simp)⟩
      | go_keep)
    (first
      | ((go_at_call 130; refine (shortest_any a0 a1 a2 b0 b1 b2 b3 m x _ hN5d hE5d hxm).mono ?_; rintro e w6 ⟨rfl, hb6⟩; rw [HG.out]; have hz6 : w5.heap.size ≤ w6.heap.size := hb6.size))
      | ((go_at_call 128; refine (broken3_any _ u0 u1 u2 b2 b1 b3 _ ?_ ?_ ?_ ?_ ?_ ?_).mono ?_; go_simp; go_simp; go_simp; go_simp; go_simp; go_simp; rintro e w7 ⟨rfl, hb7⟩)))
  have hb7' : Below w5.heap.size w5 w7 := ((Below.refl w5.heap.size w5).drew.trans hb6).trans ((((Below.refl w6.heap.size w6).alloc (by simp) _).trans (hb7.mono (by simp))).mono hz6)
  have hS7 := hS5.below hb7'
  have hB7 := hB5.trans (hb7'.mono hB5.size)
  clear hb6 hb7 hb7' hS5 hE5 hN5 hN5d hE5d hB5 g1 g2 g3 i0 i1 i2 hz1 hz2 hz3 hzh heq hz6
  rw [HVV.out]
  have hE7 := hE.below hB7.drew
  have i0 := hS7.h0
  have i1 := hS7.h1
  have i2 := hS7.h2
  have c0 := hS7.c0
  have c1 := hS7.c1
  have c2 := hS7.c2
  have c3 := hS7.c3
  have f0 := hS7.f0
  have f1 := hS7.f1
  have f2 := hS7.f2
  have f3 := hS7.f3
  have hzh := World.block_lt_of_cell? _ _ i0
  have hzr := World.block_lt_of_cell? _ _ c0
  simp only at hzh hzr
  go_wp2_with fail
  have hs1 : IntKind.i64.wrap (at0 + 1) = at0 + 1 := IntWalk.i64_in _ (by omega)
  have hs2 : IntKind.i64.wrap (at0 + 1 + k) = at0 + 1 + k := IntWalk.i64_in _ (by omega)
  clear hp0 hp2 hu0 hu1 hf0 hf1 hxm hs
  go_region_held3 (fun w' => w'.cell? ⟨h, 0, none⟩ = some (.int .i64 m) ∧ w'.cell? ⟨h, 1, none⟩ = some (.int .i64 t) ∧ w'.cell? ⟨h, 2, none⟩ = some (.int .i64 (x : Int)))
    (first
      | exact ⟨i0, i1, i2⟩
      | exact ⟨j0, j1, j2⟩
      | exact ⟨(set4_other hne).trans j0, (set4_other hne).trans j1, (set4_other hne).trans j2⟩
      | go_keep)
    (first
      | ((go_at_call 132; refine (hwidth_any b0 b1 b2 b3 _ _ _ _ hE7).mono ?_; rintro e w8 ⟨rfl, hb8⟩; rw [HK.out]; have hS8 := hS7.below ((Below.refl w7.heap.size w7).drew.trans hb8); have j0 := hS8.h0; have j1 := hS8.h1; have j2 := hS8.h2; have d0 := hS8.c0; have d1 := hS8.c1; have d2 := hS8.c2; have d3 := hS8.c3; have k0 := hS8.f0; have k1 := hS8.f1; have k2 := hS8.f2; have k3 := hS8.f3)))
  have hB8 := hB7.drew.trans (hb8.mono hB7.drew.size)
  obtain ⟨y0, y1, y2, y3⟩ := set4 (x0 := .int .i64 m) (x1 := .int .i64 t) (x2 := .int .i64 (x : Int)) (x3 := .int .i64 (at0 + 1 + k)) d0 d1 d2 d3
  clear hs1 hs2
  go_wp2
  exact bodyPost_ret (read_res y0 y1 y2 y3) rfl ⟨rfl, (((hB8.setCell (p := ⟨w.heap.size, 0, none⟩) (Nat.le_refl _) _).setCell (p := ⟨w.heap.size, 1, none⟩) (Nat.le_refl _) _).setCell (p := ⟨w.heap.size, 2, none⟩) (Nat.le_refl _) _).setCell (p := ⟨w.heap.size, 3, none⟩) (Nat.le_refl _) _⟩
end Go.Proofs.YtmbmolgkccjedaaGreatDoor
