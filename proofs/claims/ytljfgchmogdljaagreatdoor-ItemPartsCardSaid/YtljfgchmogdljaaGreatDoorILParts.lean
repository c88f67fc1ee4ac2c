/- All that is in a right item is right: the walk of ItemParts. -/
import Derived.Test.YtljfgchmogdljaaGreatDoorILCuts
set_option linter.unusedVariables false
set_option linter.unusedSimpArgs false
namespace Go.Proofs.YtljfgchmogdljaaGreatDoor
open Go.RowKit

set_option maxRecDepth 100000 in
set_option maxHeartbeats 4000000 in
theorem parts_out (k n : Int) (qx : ByteArray) (p : Option Addr) (len cap : Nat) (x : Itm) (r : Bool) (at0 : Int) (w : World) (hH : HeadOK w) (hE : EnvE w) (hCx : ∀ W, Below w.heap.size w W → Calls Tryz.prog 11 #[.agg #[.int .i64 k, .int .i64 n, .string qx, .slice p len cap]] W (CutR x W)) (hdx : dep x ≤ 900) (hA : rightI x = r)
    (h : r = false ∨ r = true ∧ decide (at0 < 0) = true) :
    Calls Tryz.prog 8 #[.agg #[.int .i64 k, .int .i64 n, .string qx, .slice p len cap], .int .i64 at0] w fun e w' => e = .returned (.bool true) ∧ Below w.heap.size w w' := by
  have HA := Lib.hid hA
  clear hA
  have hB0 : Below w.heap.size w (w.alloc (.cells #[.int .i64 k, .int .i64 n, .string qx, .slice p len cap] 24)) := (Below.refl _ _).alloc (Nat.le_refl _) _
  have hX0 : (w.alloc (.cells #[.int .i64 k, .int .i64 n, .string qx, .slice p len cap] 24)).heap[w.heap.size]? = some (.cells #[.int .i64 k, .int .i64 n, .string qx, .slice p len cap] 24 (0, 0)) := World.alloc_heap_new w _
  have HH := Lib.hid hH
  have HE := Lib.hid hE
  have HB0 := Lib.hid hB0
  have HX0 := Lib.hid hX0
  have HCX := Lib.hid hCx
  clear hH hE hB0 hX0 hCx
  go_enter Tryz.func8, Tryz.ntmps8
  go_wp2_with fail
  refine (shown_any _ (HH.out.below HB0.out) (HE.out.below HB0.out)).mono ?_
  rintro e1 w1 ⟨rfl, hb1⟩
  have hX1 := (hb1.block _ (lt_of_heap HX0.out)).trans HX0.out
  have HB1 := Lib.hid (HB0.out.trans (hb1.mono HB0.out.size))
  have HX1 := Lib.hid hX1
  have a0 := heap_cell hX1 0 _ rfl
  have af0 := heap_frozen hX1 0
  have a1 := heap_cell hX1 1 _ rfl
  have af1 := heap_frozen hX1 1
  have a2 := heap_cell hX1 2 _ rfl
  have af2 := heap_frozen hX1 2
  have a3 := heap_cell hX1 3 _ rfl
  have af3 := heap_frozen hX1 3
  clear hb1 hX1 HX0 HB0
  go_wp2_with fail
  refine (HCX.out w1 HB1.out).mono ?_
  clear HCX
  rintro e2 w2 ⟨k3, n3, q3, p3, l3, c3, rfl, hx2, hb2⟩
  have hz1 : w.heap.size < w1.heap.size := lt_of_heap HX1.out
  have hX2 := (hb2.block _ hz1).trans HX1.out
  have hB2 := HB1.out.trans (hb2.mono HB1.out.size)
  have HB3 := Lib.hid (below_set4 hB2 (Nat.le_refl _) (.int .i64 k3) (.int .i64 n3) (.string q3) (.slice p3 l3 c3))
  have HX3 := Lib.hid (box4 hX2 (.int .i64 k3) (.int .i64 n3) (.string q3) (.slice p3 l3 c3))
  have HI3 := Lib.hid (ItV.set4 (B := w.heap.size) (ItV.mono hx2 (fun b _ (hb : w1.heap.size ≤ b) => (show w.heap.size < b by omega))) (by omega) (.int .i64 k3) (.int .i64 n3) (.string q3) (.slice p3 l3 c3))
  clear a0 af0 a1 af1 a2 af2 a3 af3
  have b0 := heap_cell hX2 0 _ rfl
  have bf0 := heap_frozen hX2 0
  have b1 := heap_cell hX2 1 _ rfl
  have bf1 := heap_frozen hX2 1
  have b2 := heap_cell hX2 2 _ rfl
  have bf2 := heap_frozen hX2 2
  have b3 := heap_cell hX2 3 _ rfl
  have bf3 := heap_frozen hX2 3
  clear hx2 hb2 hX2 hB2 HB1 HX1 hz1
  go_wp2_with fail
  refine (iright_any _ x _ _ HI3.out hdx).mono ?_
  rintro e2 w4 ⟨rfl, hb4⟩
  rw [HA.out]
  have HB4 := Lib.hid (HB3.out.trans (hb4.mono HB3.out.size))
  have HX4 := Lib.hid ((hb4.block _ (lt_of_heap HX3.out)).trans HX3.out)
  have HI4 := Lib.hid (HI3.out.below hb4)
  clear hb4 HB3 HX3 HI3
  have hX4 := HX4.out
  clear b0 bf0 b1 bf1 b2 bf2 b3 bf3
  have b0 := heap_cell hX4 0 _ rfl
  have bf0 := heap_frozen hX4 0
  have b1 := heap_cell hX4 1 _ rfl
  have bf1 := heap_frozen hX4 1
  have b2 := heap_cell hX4 2 _ rfl
  have bf2 := heap_frozen hX4 2
  have b3 := heap_cell hX4 3 _ rfl
  have bf3 := heap_frozen hX4 3
  clear hX4
  rcases h with rfl | ⟨rfl, h1⟩
  all_goals
    go_wp2_with fail
    go_ret
    exact ⟨rfl, HB4.out⟩

set_option maxRecDepth 100000 in
set_option maxHeartbeats 4000000 in
theorem parts_in (k n : Int) (qx : ByteArray) (p : Option Addr) (len cap : Nat) (kx nx : Int) (sx : List UInt8) (lx : List Itm) (j : Nat) (w : World) (hH : HeadOK w) (hE : EnvE w) (hCx : ∀ W, Below w.heap.size w W → Calls Tryz.prog 11 #[.agg #[.int .i64 k, .int .i64 n, .string qx, .slice p len cap]] W (CutR (.mk kx nx sx lx) W)) (hdx : dep (.mk kx nx sx lx) ≤ 900) (hA : rightI (.mk kx nx sx lx) = true)
    (h : lx.length ≤ j ∨ j < lx.length ∧ ∃ (y : Itm) (a b : ByteArray), lx[j]? = some y ∧ kx = 4 ∧ rightI y = true ∧ dep y ≤ 900 ∧ iencB (.mk kx nx sx lx) = (a, 0) ∧ iencB y = (b, 0) ∧ b.size < a.size ∧ a.size ≤ 1000000) (hjj : j ≤ 9223372036854775807) :
    Calls Tryz.prog 8 #[.agg #[.int .i64 k, .int .i64 n, .string qx, .slice p len cap], .int .i64 (j : Int)] w fun e w' => e = .returned (.bool true) ∧ Below w.heap.size w w' := by
  have HA := Lib.hid hA
  clear hA
  generalize hxx : Itm.mk kx nx sx lx = x at *
  have HXX := Lib.hid hxx
  clear hxx
  have hB0 : Below w.heap.size w (w.alloc (.cells #[.int .i64 k, .int .i64 n, .string qx, .slice p len cap] 24)) := (Below.refl _ _).alloc (Nat.le_refl _) _
  have hX0 : (w.alloc (.cells #[.int .i64 k, .int .i64 n, .string qx, .slice p len cap] 24)).heap[w.heap.size]? = some (.cells #[.int .i64 k, .int .i64 n, .string qx, .slice p len cap] 24 (0, 0)) := World.alloc_heap_new w _
  have HH := Lib.hid hH
  have HE := Lib.hid hE
  have HB0 := Lib.hid hB0
  have HX0 := Lib.hid hX0
  have HCX := Lib.hid hCx
  clear hH hE hB0 hX0 hCx
  go_enter Tryz.func8, Tryz.ntmps8
  go_wp2_with fail
  refine (shown_any _ (HH.out.below HB0.out) (HE.out.below HB0.out)).mono ?_
  rintro e1 w1 ⟨rfl, hb1⟩
  have hX1 := (hb1.block _ (lt_of_heap HX0.out)).trans HX0.out
  have HB1 := Lib.hid (HB0.out.trans (hb1.mono HB0.out.size))
  have HX1 := Lib.hid hX1
  have a0 := heap_cell hX1 0 _ rfl
  have af0 := heap_frozen hX1 0
  have a1 := heap_cell hX1 1 _ rfl
  have af1 := heap_frozen hX1 1
  have a2 := heap_cell hX1 2 _ rfl
  have af2 := heap_frozen hX1 2
  have a3 := heap_cell hX1 3 _ rfl
  have af3 := heap_frozen hX1 3
  clear hb1 hX1 HX0 HB0
  go_wp2_with fail
  refine (HCX.out w1 HB1.out).mono ?_
  clear HCX
  rintro e2 w2 ⟨k3, n3, q3, p3, l3, c3, rfl, hx2, hb2⟩
  have hz1 : w.heap.size < w1.heap.size := lt_of_heap HX1.out
  have hX2 := (hb2.block _ hz1).trans HX1.out
  have hB2 := HB1.out.trans (hb2.mono HB1.out.size)
  have HB3 := Lib.hid (below_set4 hB2 (Nat.le_refl _) (.int .i64 k3) (.int .i64 n3) (.string q3) (.slice p3 l3 c3))
  have HX3 := Lib.hid (box4 hX2 (.int .i64 k3) (.int .i64 n3) (.string q3) (.slice p3 l3 c3))
  have HI3 := Lib.hid (ItV.set4 (B := w.heap.size) (ItV.mono hx2 (fun b _ (hb : w1.heap.size ≤ b) => (show w.heap.size < b by omega))) (by omega) (.int .i64 k3) (.int .i64 n3) (.string q3) (.slice p3 l3 c3))
  clear a0 af0 a1 af1 a2 af2 a3 af3
  have b0 := heap_cell hX2 0 _ rfl
  have bf0 := heap_frozen hX2 0
  have b1 := heap_cell hX2 1 _ rfl
  have bf1 := heap_frozen hX2 1
  have b2 := heap_cell hX2 2 _ rfl
  have bf2 := heap_frozen hX2 2
  have b3 := heap_cell hX2 3 _ rfl
  have bf3 := heap_frozen hX2 3
  clear hx2 hb2 hX2 hB2 HB1 HX1 hz1
  go_wp2_with fail
  refine (iright_any _ x _ _ HI3.out hdx).mono ?_
  rintro e2 w4 ⟨rfl, hb4⟩
  rw [HA.out]
  have HB4 := Lib.hid (HB3.out.trans (hb4.mono HB3.out.size))
  have HX4 := Lib.hid ((hb4.block _ (lt_of_heap HX3.out)).trans HX3.out)
  have HI4 := Lib.hid (HI3.out.below hb4)
  clear hb4 HB3 HX3 HI3
  have hX4 := HX4.out
  clear b0 bf0 b1 bf1 b2 bf2 b3 bf3
  have b0 := heap_cell hX4 0 _ rfl
  have bf0 := heap_frozen hX4 0
  have b1 := heap_cell hX4 1 _ rfl
  have bf1 := heap_frozen hX4 1
  have b2 := heap_cell hX4 2 _ rfl
  have bf2 := heap_frozen hX4 2
  have b3 := heap_cell hX4 3 _ rfl
  have bf3 := heap_frozen hX4 3
  clear hX4
  have hv := HI4.out
  rw [← HXX.out] at hv
  simp only [ItV] at hv
  obtain ⟨pp, cc, ev, hcap, hmax, _, _, _, hits⟩ := hv
  simp only [Value.agg.injEq, Array.mk.injEq, List.cons.injEq, and_true, Value.int.injEq, true_and, Value.string.injEq, Value.slice.injEq] at ev
  obtain ⟨rfl, rfl, rfl, rfl, rfl, rfl⟩ := ev
  rcases h with h | ⟨hj, y, a, b, hy, rfl, hr, hdy, ha, hb, hlt, has⟩
  · have b1 : ¬ (j < lx.length) := by omega
    go_wp2_with fail
    go_ret
    exact ⟨rfl, HB4.out⟩
  · have hit5 := hits
    have HITS := Lib.hid hits
    have HY := Lib.hid hy
    have HR := Lib.hid hr
    have HAA := Lib.hid ha
    have HBB := Lib.hid hb
    clear hits hit5 hy hr ha hb
    generalize hlen : lx.length = m at *
    have HLEN := Lib.hid hlen
    clear hlen
    go_wp2_with fail
    refine (iencode_any _ x _ _ (HH.out.below HB4.out) (HE.out.below HB4.out) HI4.out hdx).mono ?_
    rintro e2 w5 ⟨rfl, hb5⟩
    rw [HAA.out]
    have HITS5 := Lib.hid (HITS.out.below hb5)
    have HB5 := Lib.hid (HB4.out.trans (hb5.mono HB4.out.size))
    have HX5 := Lib.hid ((hb5.block _ (lt_of_heap HX4.out)).trans HX4.out)
    have HI5 := Lib.hid (HI4.out.below hb5)
    clear hb5 HB4 HX4 HI4
    obtain ⟨ad, d0, d1, d2, d3, rfl, _, e0, e1, e2, e3, hvy⟩ := ItsV.reads lx j y HITS5.out HY.out
    have HVY := Lib.hid hvy
    have hX5 := HX5.out
    clear b0 bf0 b1 bf1 b2 bf2 b3 bf3 hvy
    have b0 := heap_cell hX5 0 _ rfl
    have bf0 := heap_frozen hX5 0
    have b1 := heap_cell hX5 1 _ rfl
    have bf1 := heap_frozen hX5 1
    have b2 := heap_cell hX5 2 _ rfl
    have bf2 := heap_frozen hX5 2
    have b3 := heap_cell hX5 3 _ rfl
    have bf3 := heap_frozen hX5 3
    clear hX5
    go_wp2_with fail
    refine (iencode_any _ y _ _ (HH.out.below HB5.out) (HE.out.below HB5.out) HVY.out hdy).mono ?_
    rintro e2 w6 ⟨rfl, hb6⟩
    rw [HBB.out]
    have HITS6 := Lib.hid (HITS5.out.below hb6)
    have HB6 := Lib.hid (HB5.out.trans (hb6.mono HB5.out.size))
    have HX6 := Lib.hid ((hb6.block _ (lt_of_heap HX5.out)).trans HX5.out)
    clear hb6 HB5 HX5
    clear e0 e1 e2 e3 HVY
    obtain ⟨ad', g0, g1, g2, g3, ead, _, e0, e1, e2, e3, hvy⟩ := ItsV.reads lx j y HITS6.out HY.out
    obtain rfl : ad = ad' := by simpa using ead
    have HVY := Lib.hid hvy
    have hX6 := HX6.out
    clear b0 bf0 b1 bf1 b2 bf2 b3 bf3 hvy ead
    have b0 := heap_cell hX6 0 _ rfl
    have bf0 := heap_frozen hX6 0
    have b1 := heap_cell hX6 1 _ rfl
    have bf1 := heap_frozen hX6 1
    have b2 := heap_cell hX6 2 _ rfl
    have bf2 := heap_frozen hX6 2
    have b3 := heap_cell hX6 3 _ rfl
    have bf3 := heap_frozen hX6 3
    clear hX6
    go_wp2_with fail
    refine (iright_any _ y _ _ HVY.out hdy).mono ?_
    rintro e2 w7 ⟨rfl, hb7⟩
    rw [HR.out]
    have HB7 := Lib.hid (HB6.out.trans (hb7.mono HB6.out.size))
    clear hb7
    go_wp2_with fail
    go_ret
    exact ⟨rfl, HB7.out⟩

theorem parts_walk (X : Itm) (vx : Value) (at0 : Int) (w : World) (hH : HeadOK w) (hE : EnvE w) (hx : ItV (fun _ => True) w X vx) (hwf : (Lit.int .i64 at0).wf = true) :
    Calls Tryz.prog 8 #[vx, .int .i64 at0] w fun e w' => e = .returned (.bool true) ∧ Below w.heap.size w w' := by
  obtain ⟨k, n, qx, p, len, cap, rfl, hCx⟩ := cut_in hx
  have hdx := dep_cut6 X
  generalize cutI 6 X = x at *
  cases hr : rightI x with
  | false => exact parts_out k n qx p len cap x false at0 w hH hE hCx hdx hr (.inl rfl)
  | true =>
    by_cases h0 : at0 < 0
    · exact parts_out k n qx p len cap x true at0 w hH hE hCx hdx hr (.inr ⟨rfl, by simpa using h0⟩)
    · obtain ⟨j, rfl⟩ := Int.eq_ofNat_of_zero_le (show 0 ≤ at0 by omega)
      have hjj : j ≤ 9223372036854775807 := by
        have h2 : IntKind.max .i64 = 9223372036854775807 := by decide
        simp only [Lit.wf, h2, Bool.and_eq_true, decide_eq_true_eq] at hwf
        omega
      obtain ⟨kx, nx, sx, lx⟩ := x
      refine parts_in k n qx p len cap kx nx sx lx j w hH hE hCx hdx hr ?_ hjj
      by_cases hj : j < lx.length
      · refine .inr ⟨hj, lx[j], ⟨(encI (.mk kx nx sx lx)).toArray⟩, ⟨(encI lx[j]).toArray⟩, List.getElem?_eq_getElem hj, ?_⟩
        obtain ⟨r1, r2, r3⟩ := (rightI_iff _).1 hr
        obtain ⟨s1, s2, s3, s4, s5⟩ := parts_ok (List.getElem_mem hj) r1
        have hry : rightI lx[j] = true := (rightI_iff _).2 ⟨s1, by omega, by omega⟩
        have hsm := enc_small hr
        refine ⟨s5, hry, by omega, iencB_ok hr, iencB_ok hry, ?_, ?_⟩
        · rw [list_size, list_size]; exact s4
        · rw [list_size]; omega
      · exact .inl (by omega)
end Go.Proofs.YtljfgchmogdljaaGreatDoor
