/- Which items are right, which are the same, their bytes, items of bytes: the walk of ItemCodes. -/
import Derived.Test.YtljfgchmogdljaaGreatDoorILApart
set_option linter.unusedVariables false
set_option linter.unusedSimpArgs false
namespace Go.Proofs.YtljfgchmogdljaaGreatDoor
open Go.RowKit

theorem keep4 {w0 w' : World} (h : Below w0.heap.size w0 w') {B : Nat} {a b c d : Value} {t : TypeId} (hb : w0.heap[B]? = some (.cells #[a, b, c, d] t (0, 0))) : w'.cell? ⟨B, 0, none⟩ = some a ∧ w'.cell? ⟨B, 1, none⟩ = some b ∧ w'.cell? ⟨B, 2, none⟩ = some c ∧ w'.cell? ⟨B, 3, none⟩ = some d := by
  have hb' := (h.block _ (lt_of_heap hb)).trans hb
  exact ⟨heap_cell hb' 0 _ rfl, heap_cell hb' 1 _ rfl, heap_cell hb' 2 _ rfl, heap_cell hb' 3 _ rfl⟩

set_option maxRecDepth 100000 in
set_option maxHeartbeats 16000000 in
theorem codes_of (k n : Int) (qx : ByteArray) (p : Option Addr) (len cap : Nat) (k2 n2 : Int) (qy : ByteArray) (p2 : Option Addr) (len2 cap2 : Nat) (x y xd xw : Itm) (s q a : ByteArray) (e at0 b f h : Int) (rx sb : Bool) (w : World) (hH : HeadOK w) (hE : EnvE w) (hCx : ∀ W, Below w.heap.size w W → Calls Tryz.prog 11 #[.agg #[.int .i64 k, .int .i64 n, .string qx, .slice p len cap]] W (CutR x W)) (hCy : ∀ W, Below w.heap.size w W → Calls Tryz.prog 11 #[.agg #[.int .i64 k2, .int .i64 n2, .string qy, .slice p2 len2 cap2]] W (CutR y W)) (hdx : dep x ≤ 900) (hs : s.size ≤ maxLen) (hq : s.extract 0 (min s.size 700) = q) (hql : q.size ≤ 700) (hA : iencB x = (a, e)) (hD : decI q at0 = (xd, b, f)) (hW : wholeI q = (xw, h)) (hR : rightI x = rx) (hS : sameB x y = sb) :
    Calls Tryz.prog 3 #[.agg #[.int .i64 k, .int .i64 n, .string qx, .slice p len cap], .agg #[.int .i64 k2, .int .i64 n2, .string qy, .slice p2 len2 cap2], .string s, .int .i64 at0] w fun e w' => e = .returned (.bool true) ∧ Below w.heap.size w w' := by
  have HA := Lib.hid hA
  have HD := Lib.hid hD
  have HW := Lib.hid hW
  have HR := Lib.hid hR
  have HSB := Lib.hid hS
  have HQ := Lib.hid hq
  clear hA hD hW hR hS hq
  have hB0 : Below w.heap.size w ((w.alloc (.cells #[.int .i64 k, .int .i64 n, .string qx, .slice p len cap] 24)).alloc (.cells #[.int .i64 k2, .int .i64 n2, .string qy, .slice p2 len2 cap2] 24)) := ((Below.refl _ _).alloc (Nat.le_refl _) _).alloc (by simp) _
  have hX0 : ((w.alloc (.cells #[.int .i64 k, .int .i64 n, .string qx, .slice p len cap] 24)).alloc (.cells #[.int .i64 k2, .int .i64 n2, .string qy, .slice p2 len2 cap2] 24)).heap[w.heap.size]? = some (.cells #[.int .i64 k, .int .i64 n, .string qx, .slice p len cap] 24 (0, 0)) := (Below.heap_alloc _ _ _ (by simp)).trans (World.alloc_heap_new w _)
  have hY0 : ((w.alloc (.cells #[.int .i64 k, .int .i64 n, .string qx, .slice p len cap] 24)).alloc (.cells #[.int .i64 k2, .int .i64 n2, .string qy, .slice p2 len2 cap2] 24)).heap[w.heap.size + 1]? = some (.cells #[.int .i64 k2, .int .i64 n2, .string qy, .slice p2 len2 cap2] 24 (0, 0)) := by
    have := World.alloc_heap_new (w.alloc (.cells #[.int .i64 k, .int .i64 n, .string qx, .slice p len cap] 24)) (.cells #[.int .i64 k2, .int .i64 n2, .string qy, .slice p2 len2 cap2] 24)
    rw [show (w.alloc (.cells #[.int .i64 k, .int .i64 n, .string qx, .slice p len cap] 24)).heap.size = w.heap.size + 1 by simp] at this
    exact this
  have HH := Lib.hid hH
  have HE := Lib.hid hE
  have HB0 := Lib.hid hB0
  have HX0 := Lib.hid hX0
  have HY0 := Lib.hid hY0
  have HCX := Lib.hid hCx
  have HCY := Lib.hid hCy
  clear hH hE hB0 hX0 hY0 hCx hCy
  go_enter Tryz.func3, Tryz.ntmps3
  go_wp2_with fail
  refine (shown_any _ (HH.out.below HB0.out) (HE.out.below HB0.out)).mono ?_
  rintro e1 w1 ⟨rfl, hb1⟩
  have HB1 := Lib.hid (HB0.out.trans (hb1.mono HB0.out.size))
  have HX1 := Lib.hid ((hb1.block _ (lt_of_heap HX0.out)).trans HX0.out)
  have HY1 := Lib.hid ((hb1.block _ (lt_of_heap HY0.out)).trans HY0.out)
  clear hb1 HB0 HX0 HY0
  have hX1 := HX1.out
  have a0 := heap_cell hX1 0 _ rfl
  have af0 := heap_frozen hX1 0
  have a1 := heap_cell hX1 1 _ rfl
  have af1 := heap_frozen hX1 1
  have a2 := heap_cell hX1 2 _ rfl
  have af2 := heap_frozen hX1 2
  have a3 := heap_cell hX1 3 _ rfl
  have af3 := heap_frozen hX1 3
  clear hX1
  go_wp2_with fail
  refine (HCX.out w1 HB1.out).mono ?_
  clear HCX
  rintro e2 w2 ⟨k3, n3, q3, p3, l3, c3, rfl, hx2, hb2⟩
  have hz1 : w.heap.size + 1 < w1.heap.size := lt_of_heap HY1.out
  have HB2 := Lib.hid (HB1.out.trans (hb2.mono HB1.out.size))
  have HX2 := Lib.hid ((hb2.block _ (lt_of_heap HX1.out)).trans HX1.out)
  have HY2 := Lib.hid ((hb2.block _ (lt_of_heap HY1.out)).trans HY1.out)
  clear hb2 HB1 HX1 HY1
  have hX2 := HX2.out
  have hY2 := HY2.out
  clear a0 af0 a1 af1 a2 af2 a3 af3
  have b0 := heap_cell hX2 0 _ rfl
  have bf0 := heap_frozen hX2 0
  have b1 := heap_cell hX2 1 _ rfl
  have bf1 := heap_frozen hX2 1
  have b2 := heap_cell hX2 2 _ rfl
  have bf2 := heap_frozen hX2 2
  have b3 := heap_cell hX2 3 _ rfl
  have bf3 := heap_frozen hX2 3
  have g0 := heap_cell hY2 0 _ rfl
  have gf0 := heap_frozen hY2 0
  have g1 := heap_cell hY2 1 _ rfl
  have gf1 := heap_frozen hY2 1
  have g2 := heap_cell hY2 2 _ rfl
  have gf2 := heap_frozen hY2 2
  have g3 := heap_cell hY2 3 _ rfl
  have gf3 := heap_frozen hY2 3
  have HB3 := Lib.hid (below_set4 HB2.out (Nat.le_refl _) (.int .i64 k3) (.int .i64 n3) (.string q3) (.slice p3 l3 c3))
  have HX3 := Lib.hid (box4 hX2 (.int .i64 k3) (.int .i64 n3) (.string q3) (.slice p3 l3 c3))
  have HY3 := Lib.hid ((box4_other (B := w.heap.size) (b := w.heap.size + 1) (by omega) (.int .i64 k3) (.int .i64 n3) (.string q3) (.slice p3 l3 c3)).trans hY2)
  have HI3 := Lib.hid (ItV.set4 (B := w.heap.size) (ItV.mono hx2 (fun b _ (hb : w1.heap.size ≤ b) => (show w.heap.size + 1 < b by omega))) (by omega) (.int .i64 k3) (.int .i64 n3) (.string q3) (.slice p3 l3 c3))
  clear hX2 hY2 hx2 HB2 HX2 HY2
  go_wp2_with fail
  refine (HCY.out _ HB3.out).mono ?_
  clear HCY
  rintro e2 w4 ⟨k4, n4, q4, p4, l4, c4, rfl, hy4, hb4⟩
  have hz4 := hb4.size
  have HB4 := Lib.hid (HB3.out.trans (hb4.mono HB3.out.size))
  have HX4 := Lib.hid ((hb4.block _ (lt_of_heap HX3.out)).trans HX3.out)
  have HY4 := Lib.hid ((hb4.block _ (lt_of_heap HY3.out)).trans HY3.out)
  have HI4 := Lib.hid (HI3.out.below hb4)
  clear hb4 HB3 HX3 HY3 HI3
  have hX4 := HX4.out
  have hY4 := HY4.out
  have hs3 : w.heap.size + 1 < ((((w2.setCell ⟨w.heap.size, 0, none⟩ (.int .i64 k3)).setCell ⟨w.heap.size, 1, none⟩ (.int .i64 n3)).setCell ⟨w.heap.size, 2, none⟩ (.string q3)).setCell ⟨w.heap.size, 3, none⟩ (.slice p3 l3 c3)).heap.size := by have := World.block_lt_of_cell? _ _ g0; simpa using this
  clear b0 bf0 b1 bf1 b2 bf2 b3 bf3 g0 gf0 g1 gf1 g2 gf2 g3 gf3
  have b0 := heap_cell hX4 0 _ rfl
  have bf0 := heap_frozen hX4 0
  have b1 := heap_cell hX4 1 _ rfl
  have bf1 := heap_frozen hX4 1
  have b2 := heap_cell hX4 2 _ rfl
  have bf2 := heap_frozen hX4 2
  have b3 := heap_cell hX4 3 _ rfl
  have bf3 := heap_frozen hX4 3
  have g0 := heap_cell hY4 0 _ rfl
  have gf0 := heap_frozen hY4 0
  have g1 := heap_cell hY4 1 _ rfl
  have gf1 := heap_frozen hY4 1
  have g2 := heap_cell hY4 2 _ rfl
  have gf2 := heap_frozen hY4 2
  have g3 := heap_cell hY4 3 _ rfl
  have gf3 := heap_frozen hY4 3
  have HB5 := Lib.hid (below_set4 HB4.out (Nat.le_succ _) (.int .i64 k4) (.int .i64 n4) (.string q4) (.slice p4 l4 c4))
  have HX5 := Lib.hid ((box4_other (B := w.heap.size + 1) (b := w.heap.size) (by omega) (.int .i64 k4) (.int .i64 n4) (.string q4) (.slice p4 l4 c4)).trans hX4)
  have HY5 := Lib.hid (box4 hY4 (.int .i64 k4) (.int .i64 n4) (.string q4) (.slice p4 l4 c4))
  have HI5 := Lib.hid (ItV.set4 (B := w.heap.size + 1) HI4.out (by omega) (.int .i64 k4) (.int .i64 n4) (.string q4) (.slice p4 l4 c4))
  have HJ5 := Lib.hid (ItV.set4 (B := w.heap.size + 1) (ItV.mono hy4 (fun b _ hb => (show w.heap.size + 1 < b from Nat.lt_of_lt_of_le hs3 hb))) (by omega) (.int .i64 k4) (.int .i64 n4) (.string q4) (.slice p4 l4 c4))
  clear hX4 hY4 hy4 hs3 hz4 HB4 HX4 HY4 HI4
  go_wp2_with fail
  refine (lawCut_any s _ hs).mono ?_
  rintro e2 w' ⟨rfl, rfl⟩
  rw [HQ.out]
  go_wp2_with fail
  refine (iencode_any _ x _ _ (HH.out.below HB5.out) (HE.out.below HB5.out) HI5.out hdx).mono ?_
  rintro e2 w6 ⟨rfl, hb6⟩
  rw [HA.out]
  have HB6 := Lib.hid (HB5.out.trans (hb6.mono HB5.out.size))
  have HX6 := Lib.hid ((hb6.block _ (lt_of_heap HX5.out)).trans HX5.out)
  have HY6 := Lib.hid ((hb6.block _ (lt_of_heap HY5.out)).trans HY5.out)
  have HI6 := Lib.hid (HI5.out.below hb6)
  have HJ6 := Lib.hid (HJ5.out.below hb6)
  clear hb6 HB5 HX5 HY5 HI5 HJ5
  have hX6 := HX6.out
  clear b0 bf0 b1 bf1 b2 bf2 b3 bf3 g0 gf0 g1 gf1 g2 gf2 g3 gf3
  have b0 := heap_cell hX6 0 _ rfl
  have bf0 := heap_frozen hX6 0
  have b1 := heap_cell hX6 1 _ rfl
  have bf1 := heap_frozen hX6 1
  have b2 := heap_cell hX6 2 _ rfl
  have bf2 := heap_frozen hX6 2
  have b3 := heap_cell hX6 3 _ rfl
  have bf3 := heap_frozen hX6 3
  clear hX6
  go_wp2_with fail
  refine (rencI_any _ x _ _ HI6.out).mono ?_
  rintro e2 w7 ⟨rfl, hb7⟩
  rw [HA.out]
  have HB7 := Lib.hid (HB6.out.trans (hb7.mono HB6.out.size))
  have HX7 := Lib.hid ((hb7.block _ (lt_of_heap HX6.out)).trans HX6.out)
  have HY7 := Lib.hid ((hb7.block _ (lt_of_heap HY6.out)).trans HY6.out)
  have HI7 := Lib.hid (HI6.out.below hb7)
  have HJ7 := Lib.hid (HJ6.out.below hb7)
  clear hb7 HB6 HX6 HY6 HI6 HJ6
  clear b0 bf0 b1 bf1 b2 bf2 b3 bf3
  go_wp2_with fail
  have hd := idecode_any q at0 w7 (HH.out.below HB7.out) (HE.out.below HB7.out) (by omega)
  rw [HD.out] at hd
  refine hd.mono ?_
  clear hd
  rintro e1 w8 ⟨k8, n8, q8, p8, l8, c8, rfl, hz8, hb8⟩
  have HB8 := Lib.hid (HB7.out.trans (hb8.mono HB7.out.size))
  have HX8 := Lib.hid ((hb8.block _ (lt_of_heap HX7.out)).trans HX7.out)
  have HY8 := Lib.hid ((hb8.block _ (lt_of_heap HY7.out)).trans HY7.out)
  have HI8 := Lib.hid (HI7.out.below hb8)
  have HJ8 := Lib.hid (HJ7.out.below hb8)
  clear hb8 HB7 HX7 HY7 HI7 HJ7
  have hbb : Below w8.heap.size w8 (w8.alloc (.cells #[.int .i64 k8, .int .i64 n8, .string q8, .slice p8 l8 c8] 24)) := (Below.refl w8.heap.size w8).alloc (Nat.le_refl _) _
  have HK9 := Lib.hid (hz8.below hbb)
  have HZa9 := Lib.hid (World.alloc_heap_new w8 (.cells #[.int .i64 k8, .int .i64 n8, .string q8, .slice p8 l8 c8] 24))
  have HB9 := Lib.hid (HB8.out.trans (hbb.mono HB8.out.size))
  have HX9 := Lib.hid ((hbb.block _ (lt_of_heap HX8.out)).trans HX8.out)
  have HY9 := Lib.hid ((hbb.block _ (lt_of_heap HY8.out)).trans HY8.out)
  have HI9 := Lib.hid (HI8.out.below hbb)
  have HJ9 := Lib.hid (HJ8.out.below hbb)
  clear hbb HB8 HX8 HY8 HI8 HJ8
  clear hz8
  go_wp2_with fail
  have hd := rdecodeI_any q at0 (w8.alloc (.cells #[.int .i64 k8, .int .i64 n8, .string q8, .slice p8 l8 c8] 24)) (by omega)
  rw [HD.out] at hd
  refine hd.mono ?_
  clear hd
  rintro e1 w10 ⟨k10, n10, q10, p10, l10, c10, rfl, hz10, hb10⟩
  have HB10 := Lib.hid (HB9.out.trans (hb10.mono HB9.out.size))
  have HX10 := Lib.hid ((hb10.block _ (lt_of_heap HX9.out)).trans HX9.out)
  have HY10 := Lib.hid ((hb10.block _ (lt_of_heap HY9.out)).trans HY9.out)
  have HI10 := Lib.hid (HI9.out.below hb10)
  have HJ10 := Lib.hid (HJ9.out.below hb10)
  have HK10 := Lib.hid (HK9.out.below hb10)
  have HZa10 := Lib.hid ((hb10.block _ (lt_of_heap HZa9.out)).trans HZa9.out)
  clear hb10 HB9 HX9 HY9 HI9 HJ9 HK9 HZa9
  have hbb : Below w10.heap.size w10 (w10.alloc (.cells #[.int .i64 k10, .int .i64 n10, .string q10, .slice p10 l10 c10] 24)) := (Below.refl w10.heap.size w10).alloc (Nat.le_refl _) _
  have HL11 := Lib.hid (hz10.below hbb)
  have HZb11 := Lib.hid (World.alloc_heap_new w10 (.cells #[.int .i64 k10, .int .i64 n10, .string q10, .slice p10 l10 c10] 24))
  have HB11 := Lib.hid (HB10.out.trans (hbb.mono HB10.out.size))
  have HX11 := Lib.hid ((hbb.block _ (lt_of_heap HX10.out)).trans HX10.out)
  have HY11 := Lib.hid ((hbb.block _ (lt_of_heap HY10.out)).trans HY10.out)
  have HI11 := Lib.hid (HI10.out.below hbb)
  have HJ11 := Lib.hid (HJ10.out.below hbb)
  have HK11 := Lib.hid (HK10.out.below hbb)
  have HZa11 := Lib.hid ((hbb.block _ (lt_of_heap HZa10.out)).trans HZa10.out)
  clear hbb HB10 HX10 HY10 HI10 HJ10 HK10 HZa10
  clear hz10
  go_wp2_with fail
  have hd := iwhole_any q _ (HH.out.below HB11.out) (HE.out.below HB11.out) (by omega)
  rw [HW.out] at hd
  refine hd.mono ?_
  clear hd
  rintro e1 w12 ⟨k12, n12, q12, p12, l12, c12, rfl, hz12, hb12⟩
  have HB12 := Lib.hid (HB11.out.trans (hb12.mono HB11.out.size))
  have HX12 := Lib.hid ((hb12.block _ (lt_of_heap HX11.out)).trans HX11.out)
  have HY12 := Lib.hid ((hb12.block _ (lt_of_heap HY11.out)).trans HY11.out)
  have HI12 := Lib.hid (HI11.out.below hb12)
  have HJ12 := Lib.hid (HJ11.out.below hb12)
  have HK12 := Lib.hid (HK11.out.below hb12)
  have HZa12 := Lib.hid ((hb12.block _ (lt_of_heap HZa11.out)).trans HZa11.out)
  have HL12 := Lib.hid (HL11.out.below hb12)
  have HZb12 := Lib.hid ((hb12.block _ (lt_of_heap HZb11.out)).trans HZb11.out)
  clear hb12 HB11 HX11 HY11 HI11 HJ11 HK11 HZa11 HL11 HZb11
  have hbb : Below w12.heap.size w12 (w12.alloc (.cells #[.int .i64 k12, .int .i64 n12, .string q12, .slice p12 l12 c12] 24)) := (Below.refl w12.heap.size w12).alloc (Nat.le_refl _) _
  have HM13 := Lib.hid (hz12.below hbb)
  have HZc13 := Lib.hid (World.alloc_heap_new w12 (.cells #[.int .i64 k12, .int .i64 n12, .string q12, .slice p12 l12 c12] 24))
  have HB13 := Lib.hid (HB12.out.trans (hbb.mono HB12.out.size))
  have HX13 := Lib.hid ((hbb.block _ (lt_of_heap HX12.out)).trans HX12.out)
  have HY13 := Lib.hid ((hbb.block _ (lt_of_heap HY12.out)).trans HY12.out)
  have HI13 := Lib.hid (HI12.out.below hbb)
  have HJ13 := Lib.hid (HJ12.out.below hbb)
  have HK13 := Lib.hid (HK12.out.below hbb)
  have HZa13 := Lib.hid ((hbb.block _ (lt_of_heap HZa12.out)).trans HZa12.out)
  have HL13 := Lib.hid (HL12.out.below hbb)
  have HZb13 := Lib.hid ((hbb.block _ (lt_of_heap HZb12.out)).trans HZb12.out)
  clear hbb HB12 HX12 HY12 HI12 HJ12 HK12 HZa12 HL12 HZb12
  clear hz12
  go_wp2_with fail
  have hd := rwholeI_any q (w12.alloc (.cells #[.int .i64 k12, .int .i64 n12, .string q12, .slice p12 l12 c12] 24)) (by omega)
  rw [HW.out] at hd
  refine hd.mono ?_
  clear hd
  rintro e1 w14 ⟨k14, n14, q14, p14, l14, c14, rfl, hz14, hb14⟩
  have HB14 := Lib.hid (HB13.out.trans (hb14.mono HB13.out.size))
  have HX14 := Lib.hid ((hb14.block _ (lt_of_heap HX13.out)).trans HX13.out)
  have HY14 := Lib.hid ((hb14.block _ (lt_of_heap HY13.out)).trans HY13.out)
  have HI14 := Lib.hid (HI13.out.below hb14)
  have HJ14 := Lib.hid (HJ13.out.below hb14)
  have HK14 := Lib.hid (HK13.out.below hb14)
  have HZa14 := Lib.hid ((hb14.block _ (lt_of_heap HZa13.out)).trans HZa13.out)
  have HL14 := Lib.hid (HL13.out.below hb14)
  have HZb14 := Lib.hid ((hb14.block _ (lt_of_heap HZb13.out)).trans HZb13.out)
  have HM14 := Lib.hid (HM13.out.below hb14)
  have HZc14 := Lib.hid ((hb14.block _ (lt_of_heap HZc13.out)).trans HZc13.out)
  clear hb14 HB13 HX13 HY13 HI13 HJ13 HK13 HZa13 HL13 HZb13 HM13 HZc13
  have hbb : Below w14.heap.size w14 (w14.alloc (.cells #[.int .i64 k14, .int .i64 n14, .string q14, .slice p14 l14 c14] 24)) := (Below.refl w14.heap.size w14).alloc (Nat.le_refl _) _
  have HN15 := Lib.hid (hz14.below hbb)
  have HZd15 := Lib.hid (World.alloc_heap_new w14 (.cells #[.int .i64 k14, .int .i64 n14, .string q14, .slice p14 l14 c14] 24))
  have HB15 := Lib.hid (HB14.out.trans (hbb.mono HB14.out.size))
  have HX15 := Lib.hid ((hbb.block _ (lt_of_heap HX14.out)).trans HX14.out)
  have HY15 := Lib.hid ((hbb.block _ (lt_of_heap HY14.out)).trans HY14.out)
  have HI15 := Lib.hid (HI14.out.below hbb)
  have HJ15 := Lib.hid (HJ14.out.below hbb)
  have HK15 := Lib.hid (HK14.out.below hbb)
  have HZa15 := Lib.hid ((hbb.block _ (lt_of_heap HZa14.out)).trans HZa14.out)
  have HL15 := Lib.hid (HL14.out.below hbb)
  have HZb15 := Lib.hid ((hbb.block _ (lt_of_heap HZb14.out)).trans HZb14.out)
  have HM15 := Lib.hid (HM14.out.below hbb)
  have HZc15 := Lib.hid ((hbb.block _ (lt_of_heap HZc14.out)).trans HZc14.out)
  clear hbb HB14 HX14 HY14 HI14 HJ14 HK14 HZa14 HL14 HZb14 HM14 HZc14
  clear hz14
  go_wp2_with fail
  generalize w14.alloc (.cells #[.int .i64 k14, .int .i64 n14, .string q14, .slice p14 l14 c14] 24) = w0 at *
  have hcum : Below w0.heap.size w0 w0.drew := (Below.refl w0.heap.size w0).drew
  have hXX := HX15.out
  have hYY := HY15.out
  have hZA := HZa15.out
  have hZB := HZb15.out
  have hZC := HZc15.out
  have hZD := HZd15.out
  clear hXX hYY hZA hZB hZC hZD
  go_region_held3 (fun w' => (w'.cell? ⟨w.heap.size, 0, none⟩ = some (.int .i64 k3) ∧ w'.cell? ⟨w.heap.size, 1, none⟩ = some (.int .i64 n3) ∧ w'.cell? ⟨w.heap.size, 2, none⟩ = some (.string q3) ∧ w'.cell? ⟨w.heap.size, 3, none⟩ = some (.slice p3 l3 c3)) ∧ (w'.cell? ⟨w.heap.size + 1, 0, none⟩ = some (.int .i64 k4) ∧ w'.cell? ⟨w.heap.size + 1, 1, none⟩ = some (.int .i64 n4) ∧ w'.cell? ⟨w.heap.size + 1, 2, none⟩ = some (.string q4) ∧ w'.cell? ⟨w.heap.size + 1, 3, none⟩ = some (.slice p4 l4 c4)) ∧ (w'.cell? ⟨w8.heap.size, 0, none⟩ = some (.int .i64 k8) ∧ w'.cell? ⟨w8.heap.size, 1, none⟩ = some (.int .i64 n8) ∧ w'.cell? ⟨w8.heap.size, 2, none⟩ = some (.string q8) ∧ w'.cell? ⟨w8.heap.size, 3, none⟩ = some (.slice p8 l8 c8)) ∧ (w'.cell? ⟨w10.heap.size, 0, none⟩ = some (.int .i64 k10) ∧ w'.cell? ⟨w10.heap.size, 1, none⟩ = some (.int .i64 n10) ∧ w'.cell? ⟨w10.heap.size, 2, none⟩ = some (.string q10) ∧ w'.cell? ⟨w10.heap.size, 3, none⟩ = some (.slice p10 l10 c10)) ∧ (w'.cell? ⟨w12.heap.size, 0, none⟩ = some (.int .i64 k12) ∧ w'.cell? ⟨w12.heap.size, 1, none⟩ = some (.int .i64 n12) ∧ w'.cell? ⟨w12.heap.size, 2, none⟩ = some (.string q12) ∧ w'.cell? ⟨w12.heap.size, 3, none⟩ = some (.slice p12 l12 c12)) ∧ (w'.cell? ⟨w14.heap.size, 0, none⟩ = some (.int .i64 k14) ∧ w'.cell? ⟨w14.heap.size, 1, none⟩ = some (.int .i64 n14) ∧ w'.cell? ⟨w14.heap.size, 2, none⟩ = some (.string q14) ∧ w'.cell? ⟨w14.heap.size, 3, none⟩ = some (.slice p14 l14 c14)))
    (exact ⟨keep4 hcum HX15.out, keep4 hcum HY15.out, keep4 hcum HZa15.out, keep4 hcum HZb15.out, keep4 hcum HZc15.out, keep4 hcum HZd15.out⟩)
    (first
      | (go_at_call 19; refine (iright_any _ x _ _ (HI15.out.below hcum) hdx).mono ?_; rintro e1 v1 ⟨rfl, hb1⟩; rw [HR.out]; replace hcum := hcum.trans (hb1.mono hcum.size); clear hb1)
      | (go_at_call 20; refine (rright_any _ x _ _ (HI15.out.below hcum)).mono ?_; rintro e1 v1 ⟨rfl, hb1⟩; rw [HR.out]; replace hcum := hcum.trans (hb1.mono hcum.size); clear hb1)
      | (go_at_call_of 21 (Value.agg #[.int .i64 k4, .int .i64 n4, .string q4, .slice p4 l4 c4]); refine (same_any _ _ (dep x) x y _ _ _ (Nat.le_refl _) (HI15.out.below hcum) (HJ15.out.below hcum)).mono ?_; rintro e1 v1 ⟨rfl, hb1⟩; rw [HSB.out]; replace hcum := hcum.trans (hb1.mono hcum.size); clear hb1)
      | (go_at_call 21; refine (same_any _ _ (dep x) x x _ _ _ (Nat.le_refl _) (HI15.out.below hcum) (HI15.out.below hcum)).mono ?_; rintro e1 v1 ⟨rfl, hb1⟩; rw [sameB_self]; replace hcum := hcum.trans (hb1.mono hcum.size); clear hb1)
      | (go_at_call_of 22 (Value.agg #[.int .i64 k4, .int .i64 n4, .string q4, .slice p4 l4 c4]); refine (rsame_any _ _ (dep x) x y _ _ _ (Nat.le_refl _) (HI15.out.below hcum) (HJ15.out.below hcum)).mono ?_; rintro e1 v1 ⟨rfl, hb1⟩; rw [HSB.out]; replace hcum := hcum.trans (hb1.mono hcum.size); clear hb1)
      | (go_at_call_of 22 (Value.agg #[.int .i64 k8, .int .i64 n8, .string q8, .slice p8 l8 c8]); refine (rsame_any _ _ (dep xd) xd xd _ _ _ (Nat.le_refl _) (HK15.out.below hcum) (HL15.out.below hcum)).mono ?_; rintro e1 v1 ⟨rfl, hb1⟩; rw [sameB_self]; replace hcum := hcum.trans (hb1.mono hcum.size); clear hb1)
      | (go_at_call 22; refine (rsame_any _ _ (dep xw) xw xw _ _ _ (Nat.le_refl _) (HM15.out.below hcum) (HN15.out.below hcum)).mono ?_; rintro e1 v1 ⟨rfl, hb1⟩; rw [sameB_self]; replace hcum := hcum.trans (hb1.mono hcum.size); clear hb1))
  have HBZ := Lib.hid (HB15.out.trans (hcum.mono HB15.out.size))
  clear hcum
  go_wp2_with fail
  go_ret
  exact ⟨rfl, HBZ.out⟩

theorem codes_walk (X : Itm) (vx : Value) (Y : Itm) (vy : Value) (s : ByteArray) (at0 : Int) (w : World) (hH : HeadOK w) (hE : EnvE w) (hx : ItV (fun _ => True) w X vx) (hy : ItV (fun _ => True) w Y vy) (hs : s.size ≤ maxLen) (_ : (Lit.int .i64 at0).wf = true) :
    Calls Tryz.prog 3 #[vx, vy, .string s, .int .i64 at0] w fun e w' => e = .returned (.bool true) ∧ Below w.heap.size w w' := by
  obtain ⟨k, n, qx, p, len, cap, rfl, hCx⟩ := cut_in hx
  obtain ⟨k2, n2, qy, p2, len2, cap2, rfl, hCy⟩ := cut_in hy
  exact codes_of k n qx p len cap k2 n2 qy p2 len2 cap2 _ _ _ _ s _ _ _ at0 _ _ _ _ _ w hH hE hCx hCy (dep_cut6 X) hs rfl (cut_le s) rfl rfl rfl rfl rfl
end Go.Proofs.YtljfgchmogdljaaGreatDoor
