/- Contracts of Millis and Seconds of package signs. -/
import Derived.Test.YtlddkoblicnepaaDoorGTop
set_option linter.unusedVariables false
set_option linter.unusedSimpArgs false
namespace Go.Proofs.YtlddkoblicnepaaDoor
open Go.RowKit Go.Extern.Stop Go.Stop Go.Extern

def millisO (n : Int) : Option Nat := badG [(withinB n 0 281474976710, 0)]
def secondsO (n : Int) : Option Nat := badG [(rightB n, 0), (n.tmod 1000 == 0, 6)]
theorem millisO_lt (n : Int) : ∀ i, millisO n = some i → i < 8 := badG_lt _ (by simp)
theorem secondsO_lt (n : Int) : ∀ i, secondsO n = some i → i < 8 := badG_lt _ (by simp)

set_option maxRecDepth 100000 in
set_option maxHeartbeats 4000000 in
theorem Millis_any (b : Nat → Addr) (n : Int) (w : World) (hE : EnvG b w) :
    Calls Tryd.prog 20 #[.int .i64 n] w fun e w' => e = .returned (.tuple #[.int .i64 (ansG (millisO n) (IntKind.i64.wrap (n * 1000))), .int .i64 (errG (millisO n))]) ∧ Below w.heap.size w w' := by
  have hwit := within_any n 0 281474976710
  have h2 := tell_any b (millisO n) (millisO_lt n) (IntKind.i64.wrap (n * 1000))
  have hw : firstG [(withinB n 0 281474976710, b 0)] = wrongG b (millisO n) := firstG_bad b [(withinB n 0 281474976710, 0)]
  unfold ansG
  generalize millisO n = o at *
  generalize withinB n 0 281474976710 = p1 at *
  generalize hm : IntKind.i64.wrap (n * 1000) = m at *
  generalize (if o.isSome then 0 else m) = r at *
  generalize wrongG b o = v at *
  generalize errG o = er at *
  have Hwit := Lib.hid hwit
  have H2 := Lib.hid h2
  generalize hb0 : b 0 = a0 at *
  have HB0 := Lib.hid hb0
  have HW := Lib.hid hw
  clear hwit h2 hb0 hw
  have hE0 := hE
  go_enter Tryd.func20, Tryd.ntmps20
  have g0 := hE0.g0
  rw [HB0.out] at g0
  have l0 := World.block_lt_of_cell? _ _ g0
  simp only at l0
  have hcum : CumG w [] w.drew := CumG.nil (Below.refl w.heap.size w).drew
  clear hE0
  go_wp2_with fail
  go_region_held3 (fun w' => w'.cell? ⟨0, 0, none⟩ = some (sentG a0))
    (first
      | exact (hcum.b.cell l0).trans g0
      | go_keep)
    (first
      | ((go_at_call 36; refine (Hwit.out _).mono ?_; rintro e w' ⟨rfl, rfl⟩))
      | ((go_at_call 35; refine (demand_any _ _ _).mono ?_; rintro e vd ⟨⟨P, E, rfl, hr⟩, hb⟩; replace hcum := hcum.snoc hr hb; clear hr hb))
      | ((go_at_call 34; refine (check_any _ _ _ _ (by simp) (hcum.rules _)).mono ?_; rintro e w' ⟨rfl, rfl⟩))
      | ((go_at_call 25; rw [HW.out]; refine (H2.out _ (hE.below (hcum.b.alloc hcum.b.size _))).mono ?_; rintro e vt ⟨rfl, hbt⟩; replace hcum := (hcum.below ((Below.refl _ _).alloc (Nat.le_refl _) _)).below hbt; clear hbt)))
  have hB := hcum.b
  go_wp2
  go_ret2
  exact ⟨rfl, hB⟩

set_option maxRecDepth 100000 in
set_option maxHeartbeats 4000000 in
theorem Seconds_any (b : Nat → Addr) (n : Int) (w : World) (hE : EnvG b w) (q r0 : Int) (hq : n.tdiv 1000 = q) (hq1 : IntKind.i64.wrap q = q) (hr0 : n.tmod 1000 = r0) :
    Calls Tryd.prog 22 #[.int .i64 n] w fun e w' => e = .returned (.tuple #[.int .i64 (ansG (secondsO n) q), .int .i64 (errG (secondsO n))]) ∧ Below w.heap.size w w' := by
  have hrig := right_any n
  have h2 := tell_any b (secondsO n) (secondsO_lt n) q
  have hw : firstG [(rightB n, b 0), (r0 == 0, b 6)] = wrongG b (secondsO n) := by rw [← hr0]; exact firstG_bad b [(rightB n, 0), (n.tmod 1000 == 0, 6)]
  unfold ansG
  generalize secondsO n = o at *
  generalize rightB n = p1 at *
  generalize hp2 : (r0 == 0) = p2 at *
  generalize (if o.isSome then 0 else q) = r at *
  generalize wrongG b o = v at *
  generalize errG o = er at *
  have Hrig := Lib.hid hrig
  have H2 := Lib.hid h2
  generalize hb0 : b 0 = a0 at *
  generalize hb6 : b 6 = a6 at *
  have HB0 := Lib.hid hb0
  have HB6 := Lib.hid hb6
  have HW := Lib.hid hw
  clear hrig h2 hb0 hb6 hw
  have hE0 := hE
  go_enter Tryd.func22, Tryd.ntmps22
  have g0 := hE0.g0
  have g6 := hE0.g6
  rw [HB0.out] at g0
  rw [HB6.out] at g6
  have l0 := World.block_lt_of_cell? _ _ g0
  have l6 := World.block_lt_of_cell? _ _ g6
  simp only at l0 l6
  have hcum : CumG w [] w.drew := CumG.nil (Below.refl w.heap.size w).drew
  clear hE0
  go_wp2_with fail
  go_region_held3 (fun w' => w'.cell? ⟨0, 0, none⟩ = some (sentG a0) ∧ w'.cell? ⟨1, 0, none⟩ = some (sentG a6))
    (first
      | exact ⟨(hcum.b.cell l0).trans g0, (hcum.b.cell l6).trans g6⟩
      | go_keep)
    (first
      | ((go_at_call 24; refine (Hrig.out _).mono ?_; rintro e w' ⟨rfl, rfl⟩))
      | ((go_at_call 35; refine (demand_any _ _ _).mono ?_; rintro e vd ⟨⟨P, E, rfl, hr⟩, hb⟩; replace hcum := hcum.snoc hr hb; clear hr hb))
      | ((go_at_call 34; refine (check_any _ _ _ _ (by simp) (hcum.rules _)).mono ?_; rintro e w' ⟨rfl, rfl⟩))
      | ((go_at_call 25; rw [HW.out]; refine (H2.out _ (hE.below (hcum.b.alloc hcum.b.size _))).mono ?_; rintro e vt ⟨rfl, hbt⟩; replace hcum := (hcum.below ((Below.refl _ _).alloc (Nat.le_refl _) _)).below hbt; clear hbt)))
  have hB := hcum.b
  go_wp2
  go_ret2
  exact ⟨rfl, hB⟩
end Go.Proofs.YtlddkoblicnepaaDoor
