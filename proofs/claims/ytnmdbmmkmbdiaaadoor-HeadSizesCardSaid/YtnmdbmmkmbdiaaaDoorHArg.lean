/- Contract of argument of package head: what is added to a first byte, or what stands behind it. -/
import Derived.Test.YtnmdbmmkmbdiaaaDoorHBroken
import Derived.Deep.RegionHeld3
import Derived.IntWalk
set_option linter.unusedVariables false
set_option linter.unusedSimpArgs false
namespace Go.Proofs.YtnmdbmmkmbdiaaaDoor
open Go.RowKit

/-- What argument answers. -/
def argR (s : ByteArray) (at0 t : Int) : Int × Int := if widI t = 0 then (t, 0) else takeR s at0 (widI t)

set_option maxRecDepth 100000 in
set_option maxHeartbeats 1000000 in
theorem argument_none (b0 b1 b2 b3 : Addr) (s : ByteArray) (at0 m t n : Int) (w : World) (hE : EnvH b0 b1 b2 b3 w) (hk : widI t = 0) :
    Calls Tryd.prog 35 #[.string s, .int .i64 at0, .agg #[.int .i64 m, .int .i64 t, .int .i64 n]] w fun e w' => e = .returned (.tuple #[.int .i64 t, .int .i64 0]) ∧ Below w.heap.size w w' := by
  have HK := Lib.hid hk
  clear hk
  have hB0 := (Below.refl w.heap.size w).alloc (Nat.le_refl _) (.cells #[.int .i64 m, .int .i64 t, .int .i64 n] 48)
  go_enter Tryd.func35, Tryd.ntmps35
  go_wp2_with fail
  refine (hwidth_any b0 b1 b2 b3 _ _ _ _ (hE.below hB0)).mono ?_
  rintro e w1 ⟨rfl, hb1⟩
  rw [HK.out]
  have i1 : w1.cell? ⟨w.heap.size, 1, none⟩ = some (.int .i64 t) := (hb1.cell (p := ⟨w.heap.size, 1, none⟩) (by simp)).trans (by go_simp)
  have hB1 := hB0.trans (hb1.mono hB0.size)
  clear hb1 hB0
  go_wp2
  go_ret2
  exact ⟨rfl, hB1⟩

set_option maxRecDepth 100000 in
set_option maxHeartbeats 1000000 in
theorem argument_some (a0 a1 a2 b0 b1 b2 b3 : Addr) (s : ByteArray) (at0 m t n k : Int) (w : World) (hN : Env a0 a1 a2 w) (hE : EnvH b0 b1 b2 b3 w) (hs : s.size ≤ maxLen) (hk : widI t = k) (hk0 : k ≠ 0) (x e : Int) (hx : takeR s at0 k = (x, e)) :
    Calls Tryd.prog 35 #[.string s, .int .i64 at0, .agg #[.int .i64 m, .int .i64 t, .int .i64 n]] w fun e' w' => e' = .returned (.tuple #[.int .i64 x, .int .i64 e]) ∧ Below w.heap.size w w' := by
  have HK := Lib.hid hk
  have HX := Lib.hid hx
  have hkb : (k == 0) = false := by simpa using hk0
  clear hk hk0 hx
  have hB0 := (Below.refl w.heap.size w).alloc (Nat.le_refl _) (.cells #[.int .i64 m, .int .i64 t, .int .i64 n] 48)
  go_enter Tryd.func35, Tryd.ntmps35
  go_wp2_with fail
  refine (hwidth_any b0 b1 b2 b3 _ _ _ _ (hE.below hB0)).mono ?_
  rintro e w1 ⟨rfl, hb1⟩
  rw [HK.out]
  have i0 : w1.cell? ⟨w.heap.size, 0, none⟩ = some (.int .i64 m) := (hb1.cell (p := ⟨w.heap.size, 0, none⟩) (by simp)).trans (by go_simp)
  have i1 : w1.cell? ⟨w.heap.size, 1, none⟩ = some (.int .i64 t) := (hb1.cell (p := ⟨w.heap.size, 1, none⟩) (by simp)).trans (by go_simp)
  have i2 : w1.cell? ⟨w.heap.size, 2, none⟩ = some (.int .i64 n) := (hb1.cell (p := ⟨w.heap.size, 2, none⟩) (by simp)).trans (by go_simp)
  have hB1 := hB0.trans (hb1.mono hB0.size)
  clear hb1 hB0
  go_wp2_with fail
  refine (hwidth_any b0 b1 b2 b3 _ _ _ _ (hE.below hB1)).mono ?_
  rintro e w2 ⟨rfl, hb2⟩
  rw [HK.out]
  have hB2 := hB1.trans (hb2.mono hB1.size)
  clear hb2 hB1 i0 i1 i2
  go_wp2_with fail
  refine (take_any a0 a1 a2 _ _ _ _ (hN.below hB2) hs).mono ?_
  rintro e w3 ⟨rfl, hb3⟩
  rw [HX.out]
  have hB3 := hB2.trans (hb3.mono hB2.size)
  clear hb3 hB2
  go_wp2
  go_ret2
  exact ⟨rfl, hB3⟩

theorem argument_any (a0 a1 a2 b0 b1 b2 b3 : Addr) (s : ByteArray) (at0 m t n : Int) (w : World) (hN : Env a0 a1 a2 w) (hE : EnvH b0 b1 b2 b3 w) (hs : s.size ≤ maxLen) :
    Calls Tryd.prog 35 #[.string s, .int .i64 at0, .agg #[.int .i64 m, .int .i64 t, .int .i64 n]] w fun e w' => e = .returned (.tuple #[.int .i64 (argR s at0 t).1, .int .i64 (argR s at0 t).2]) ∧ Below w.heap.size w w' := by
  unfold argR
  by_cases hk : widI t = 0
  · rw [if_pos hk]; exact argument_none b0 b1 b2 b3 s at0 m t n w hE hk
  · rw [if_neg hk]; exact argument_some a0 a1 a2 b0 b1 b2 b3 s at0 m t n _ w hN hE hs rfl hk _ _ rfl
end Go.Proofs.YtnmdbmmkmbdiaaaDoor
