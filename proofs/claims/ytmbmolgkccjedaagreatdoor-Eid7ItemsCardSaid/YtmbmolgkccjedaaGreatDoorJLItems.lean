/- The walk of Eid7Items. -/
import Derived.Test.YtmbmolgkccjedaaGreatDoorM29
set_option linter.unusedVariables false
set_option linter.unusedSimpArgs false
namespace Go.Proofs.YtmbmolgkccjedaaGreatDoor
open Go.RowKit
attribute [local go_sem ↓] Go.wp_at_zero Go.wp_at_succ

set_option maxRecDepth 100000 in
set_option maxHeartbeats 4000000 in
theorem items_ofJ (k : Int) (nd sv nd2 sv2 : ByteArray) (a b : Int) (kx nx : Int) (qx : ByteArray) (px : Option Addr) (lx cx : Nat) (x : Itm) (y : Itm) (u r : Int) (q : Option Nm) (o : Nm) (w : World) (hE : EnvN w) (hH : HeadOK w) (hA : EnvE w) (ha : I64 a) (hbI : I64 b) (hn : nd.size ≤ maxLen) (hs9 : sv.size ≤ maxLen) (hc1 : c21 nd = nd2) (hc2 : c21 sv = sv2) (hn2 : nd2.size ≤ 4000000000) (hv2 : sv2.size ≤ 4000000000) (hCx : ∀ W, Below w.heap.size w W → Calls Tryz.prog 10 #[.agg #[.int .i64 kx, .int .i64 nx, .string qx, .slice px lx cx]] W (CutR x W)) (hsm : (prt x 1).s.length ≤ 4000000000) (hl : layI (nmO k nd2 sv2 a b) = (y, u)) (hq : nmI x = q) (ho : q.getD nm0 = o) (hr : erX q = r) :
    Calls Tryz.prog 3 #[.agg #[.int .i64 k, .string nd, .string sv, .int .i64 a, .int .i64 b], .agg #[.int .i64 kx, .int .i64 nx, .string qx, .slice px lx cx]] w fun e w' => e = .returned (.bool true) ∧ Below w.heap.size w w' := by
  have HC1 := Lib.hid hc1
  clear hc1
  have HC2 := Lib.hid hc2
  clear hc2
  have HCX := Lib.hid hCx
  clear hCx
  have HL := Lib.hid hl
  clear hl
  have HQ := Lib.hid hq
  clear hq
  have HO := Lib.hid ho
  clear ho
  have HR := Lib.hid hr
  clear hr
  have e1 : ∀ W : World, (binOp .eql 23 (.agg #[.int .i64 o.k, .string ⟨o.node.toArray⟩, .string ⟨o.serv.toArray⟩, .int .i64 o.a, .int .i64 o.b]) (.agg #[.int .i64 o.k, .string ⟨o.node.toArray⟩, .string ⟨o.serv.toArray⟩, .int .i64 o.a, .int .i64 o.b])).run Tryz.prog W = .ok (.bool true) W := nm_self _ _ _ _ _ _ rfl
  have bX_ := Blk.new (w.alloc (.cells #[.int .i64 k, .string nd, .string sv, .int .i64 a, .int .i64 b] 23)) 26 #[.int .i64 kx, .int .i64 nx, .string qx, .slice px lx cx]
  simp only [World.size_alloc] at bX_
  have bE : Blk ((w.alloc (.cells #[.int .i64 k, .string nd, .string sv, .int .i64 a, .int .i64 b] 23)).alloc (.cells #[.int .i64 kx, .int .i64 nx, .string qx, .slice px lx cx] 26)) (w.heap.size) 23 #[.int .i64 k, .string nd, .string sv, .int .i64 a, .int .i64 b] := (Blk.new w _ _).alloc _
  have bX : Blk ((w.alloc (.cells #[.int .i64 k, .string nd, .string sv, .int .i64 a, .int .i64 b] 23)).alloc (.cells #[.int .i64 kx, .int .i64 nx, .string qx, .slice px lx cx] 26)) (w.heap.size + 1) 26 #[.int .i64 kx, .int .i64 nx, .string qx, .slice px lx cx] := bX_
  have hb : Below w.heap.size w ((w.alloc (.cells #[.int .i64 k, .string nd, .string sv, .int .i64 a, .int .i64 b] 23)).alloc (.cells #[.int .i64 kx, .int .i64 nx, .string qx, .slice px lx cx] 26)) := (((Below.refl _ w).alloc (Nat.le_refl _) _).alloc (by simp; try omega) _)
  have hE0 := hE.below hb
  have hH0 := hH.below hb
  have hA0 := hA.below hb
  clear bX_
  go_enter Tryz.func3, Tryz.ntmps3
  go_wp2_with fail
  generalize ((w.alloc (.cells #[.int .i64 k, .string nd, .string sv, .int .i64 a, .int .i64 b] 23)).alloc (.cells #[.int .i64 kx, .int .i64 nx, .string qx, .slice px lx cx] 26)) = w0 at *
  refine (shown_anyJ w0 hE0 hH0 hA0).mono ?_
  rintro e w1 ⟨rfl, hc1⟩
  have hb1 := hb.trans (hc1.mono hb.size)
  replace bE := bE.here hc1
  replace bX := bX.here hc1
  have hE1 := hE0.below hc1
  clear hE0
  have hH1 := hH0.below hc1
  clear hH0
  have hA1 := hA0.below hc1
  clear hA0
  clear hc1 hb
  obtain ⟨cE0, cE1, cE2, cE3, cE4⟩ := bE.five
  have fE0 := bE.frozen 0
  have fE1 := bE.frozen 1
  have fE2 := bE.frozen 2
  have fE3 := bE.frozen 3
  have fE4 := bE.frozen 4
  have lE := bE.lt
  go_wp2_with fail
  refine (lCut_any k nd sv a b w1 hn hs9).mono ?_
  rintro e w2 ⟨rfl, hc2⟩
  have hb2 := hb1.trans (hc2.mono hb1.size)
  replace bE := bE.here hc2
  replace bX := bX.here hc2
  have hE2 := hE1.below hc2
  clear hE1
  have hH2 := hH1.below hc2
  clear hH1
  have hA2 := hA1.below hc2
  clear hA1
  clear hc2 hb1
  rw [HC1.out, HC2.out]
  unfold nmV
  clear cE0 cE1 cE2 cE3 cE4 fE0 fE1 fE2 fE3 fE4 lE
  obtain ⟨cE0, cE1, cE2, cE3, cE4⟩ := bE.five
  have fE0 := bE.frozen 0
  have fE1 := bE.frozen 1
  have fE2 := bE.frozen 2
  have fE3 := bE.frozen 3
  have fE4 := bE.frozen 4
  have lE := bE.lt
  obtain ⟨cX0, cX1, cX2, cX3⟩ := bX.four
  have fX0 := bX.frozen 0
  have fX1 := bX.frozen 1
  have fX2 := bX.frozen 2
  have fX3 := bX.frozen 3
  have lX := bX.lt
  go_wp2_with fail
  clear cE0 cE1 cE2 cE3 cE4 fE0 fE1 fE2 fE3 fE4 lE
  clear cX0 cX1 cX2 cX3 fX0 fX1 fX2 fX3 lX
  have hb3 : Below w.heap.size w (((((w2.setCell ⟨w.heap.size, 0, none⟩ (.int .i64 k)).setCell ⟨w.heap.size, 1, none⟩ (.string nd2)).setCell ⟨w.heap.size, 2, none⟩ (.string sv2)).setCell ⟨w.heap.size, 3, none⟩ (.int .i64 a)).setCell ⟨w.heap.size, 4, none⟩ (.int .i64 b)) := (below_sets5 (B := w.heap.size) hb2 (by have := hb2.size; omega) _ _ _ _ _)
  have bE_ : Blk (((((w2.setCell ⟨w.heap.size, 0, none⟩ (.int .i64 k)).setCell ⟨w.heap.size, 1, none⟩ (.string nd2)).setCell ⟨w.heap.size, 2, none⟩ (.string sv2)).setCell ⟨w.heap.size, 3, none⟩ (.int .i64 a)).setCell ⟨w.heap.size, 4, none⟩ (.int .i64 b)) (w.heap.size) 23 #[.int .i64 k, .string nd2, .string sv2, .int .i64 a, .int .i64 b] := (bE.set5 _ _ _ _ _)
  have bX_ : Blk (((((w2.setCell ⟨w.heap.size, 0, none⟩ (.int .i64 k)).setCell ⟨w.heap.size, 1, none⟩ (.string nd2)).setCell ⟨w.heap.size, 2, none⟩ (.string sv2)).setCell ⟨w.heap.size, 3, none⟩ (.int .i64 a)).setCell ⟨w.heap.size, 4, none⟩ (.int .i64 b)) (w.heap.size + 1) 26 #[.int .i64 kx, .int .i64 nx, .string qx, .slice px lx cx] := (Blk.sets5 (by omega) bX _ _ _ _ _)
  clear bE bX
  have bE := bE_
  clear bE_
  have bX := bX_
  clear bX_
  have hE3 := hE.below hb3
  clear hE2
  have hH3 := hH.below hb3
  clear hH2
  have hA3 := hA.below hb3
  clear hA2
  clear hb2
  generalize (((((w2.setCell ⟨w.heap.size, 0, none⟩ (.int .i64 k)).setCell ⟨w.heap.size, 1, none⟩ (.string nd2)).setCell ⟨w.heap.size, 2, none⟩ (.string sv2)).setCell ⟨w.heap.size, 3, none⟩ (.int .i64 a)).setCell ⟨w.heap.size, 4, none⟩ (.int .i64 b)) = w3 at *
  obtain ⟨cX0, cX1, cX2, cX3⟩ := bX.four
  have fX0 := bX.frozen 0
  have fX1 := bX.frozen 1
  have fX2 := bX.frozen 2
  have fX3 := bX.frozen 3
  have lX := bX.lt
  refine (HCX.out w3 hb3).mono ?_
  rintro e w4 ⟨k3, n3, q3, p3, l3, c3, rfl, iX, hc4⟩
  have hb4 := hb3.trans (hc4.mono hb3.size)
  replace bE := bE.here hc4
  replace bX := bX.here hc4
  have hE4 := hE3.below hc4
  clear hE3
  have hH4 := hH3.below hc4
  clear hH3
  have hA4 := hA3.below hc4
  clear hA3
  replace iX := iX.mono (ok' := fun b => w.heap.size + 2 ≤ b) (fun b _ hb => by have h2 : w3.heap.size ≤ b := hb; omega)
  clear hc4 hb3
  clear cX0 cX1 cX2 cX3 fX0 fX1 fX2 fX3 lX
  obtain ⟨cX0, cX1, cX2, cX3⟩ := bX.four
  have fX0 := bX.frozen 0
  have fX1 := bX.frozen 1
  have fX2 := bX.frozen 2
  have fX3 := bX.frozen 3
  have lX := bX.lt
  obtain ⟨cE0, cE1, cE2, cE3, cE4⟩ := bE.five
  have fE0 := bE.frozen 0
  have fE1 := bE.frozen 1
  have fE2 := bE.frozen 2
  have fE3 := bE.frozen 3
  have fE4 := bE.frozen 4
  have lE := bE.lt
  go_wp2_with fail
  clear cE0 cE1 cE2 cE3 cE4 fE0 fE1 fE2 fE3 fE4 lE
  clear cX0 cX1 cX2 cX3 fX0 fX1 fX2 fX3 lX
  have hb5 : Below w.heap.size w ((((w4.setCell ⟨w.heap.size + 1, 0, none⟩ (.int .i64 k3)).setCell ⟨w.heap.size + 1, 1, none⟩ (.int .i64 n3)).setCell ⟨w.heap.size + 1, 2, none⟩ (.string q3)).setCell ⟨w.heap.size + 1, 3, none⟩ (.slice p3 l3 c3)) := (below_sets4 (B := w.heap.size + 1) hb4 (by have := hb4.size; omega) _ _ _ _)
  have bE_ : Blk ((((w4.setCell ⟨w.heap.size + 1, 0, none⟩ (.int .i64 k3)).setCell ⟨w.heap.size + 1, 1, none⟩ (.int .i64 n3)).setCell ⟨w.heap.size + 1, 2, none⟩ (.string q3)).setCell ⟨w.heap.size + 1, 3, none⟩ (.slice p3 l3 c3)) (w.heap.size) 23 #[.int .i64 k, .string nd2, .string sv2, .int .i64 a, .int .i64 b] := (Blk.sets4 (by omega) bE _ _ _ _)
  have bX_ : Blk ((((w4.setCell ⟨w.heap.size + 1, 0, none⟩ (.int .i64 k3)).setCell ⟨w.heap.size + 1, 1, none⟩ (.int .i64 n3)).setCell ⟨w.heap.size + 1, 2, none⟩ (.string q3)).setCell ⟨w.heap.size + 1, 3, none⟩ (.slice p3 l3 c3)) (w.heap.size + 1) 26 #[.int .i64 k3, .int .i64 n3, .string q3, .slice p3 l3 c3] := (bX.set4 _ _ _ _)
  clear bE bX
  have bE := bE_
  clear bE_
  have bX := bX_
  clear bX_
  replace iX := ((((iX.setc (R := w.heap.size + 1) (by omega) 0 (.int .i64 k3)).setc (R := w.heap.size + 1) (by omega) 1 (.int .i64 n3)).setc (R := w.heap.size + 1) (by omega) 2 (.string q3)).setc (R := w.heap.size + 1) (by omega) 3 (.slice p3 l3 c3))
  have hE5 := hE.below hb5
  clear hE4
  have hH5 := hH.below hb5
  clear hH4
  have hA5 := hA.below hb5
  clear hA4
  clear hb4
  generalize ((((w4.setCell ⟨w.heap.size + 1, 0, none⟩ (.int .i64 k3)).setCell ⟨w.heap.size + 1, 1, none⟩ (.int .i64 n3)).setCell ⟨w.heap.size + 1, 2, none⟩ (.string q3)).setCell ⟨w.heap.size + 1, 3, none⟩ (.slice p3 l3 c3)) = w5 at *
  refine (Item_any k nd2 sv2 a b y u HL.out w5 hE5 ha hbI).mono ?_
  rintro e w6 ⟨⟨k4, n4, q4, p4, l4, c4, rfl, iA⟩, hc6⟩
  replace iX := iX.below hc6
  have hb6 := hb5.trans (hc6.mono hb5.size)
  replace bE := bE.here hc6
  replace bX := bX.here hc6
  have hE6 := hE5.below hc6
  clear hE5
  have hH6 := hH5.below hc6
  clear hH5
  have hA6 := hA5.below hc6
  clear hA5
  clear hc6 hb5
  have hc7 : Below w6.heap.size w6 (w6.alloc (.cells #[.int .i64 k4, .int .i64 n4, .string q4, .slice p4 l4 c4] 26)) := (Below.refl _ _).alloc (Nat.le_refl _) _
  have bA : Blk (w6.alloc (.cells #[.int .i64 k4, .int .i64 n4, .string q4, .slice p4 l4 c4] 26)) w6.heap.size 26 #[.int .i64 k4, .int .i64 n4, .string q4, .slice p4 l4 c4] := Blk.new _ _ _
  replace iX := iX.below hc7
  replace iA := iA.below hc7
  have hb7 := hb6.trans (hc7.mono hb6.size)
  replace bE := bE.here hc7
  replace bX := bX.here hc7
  have hE7 := hE6.below hc7
  clear hE6
  have hH7 := hH6.below hc7
  clear hH6
  have hA7 := hA6.below hc7
  clear hA6
  clear hc7 hb6
  obtain ⟨cE0, cE1, cE2, cE3, cE4⟩ := bE.five
  have fE0 := bE.frozen 0
  have fE1 := bE.frozen 1
  have fE2 := bE.frozen 2
  have fE3 := bE.frozen 3
  have fE4 := bE.frozen 4
  have lE := bE.lt
  go_wp2_with fail
  generalize (w6.alloc (.cells #[.int .i64 k4, .int .i64 n4, .string q4, .slice p4 l4 c4] 26)) = w7 at *
  refine (rjItem_any k nd2 sv2 a b y u HL.out w7 hn2 hv2 ha hbI).mono ?_
  rintro e w8 ⟨⟨k5, n5, q5, p5, l5, c5, rfl, iB⟩, hc8⟩
  replace iX := iX.below hc8
  replace iA := iA.below hc8
  have hb8 := hb7.trans (hc8.mono hb7.size)
  replace bE := bE.here hc8
  replace bX := bX.here hc8
  replace bA := bA.here hc8
  have hE8 := hE7.below hc8
  clear hE7
  have hH8 := hH7.below hc8
  clear hH7
  have hA8 := hA7.below hc8
  clear hA7
  clear hc8 hb7
  clear cE0 cE1 cE2 cE3 cE4 fE0 fE1 fE2 fE3 fE4 lE
  have hc9 : Below w8.heap.size w8 (w8.alloc (.cells #[.int .i64 k5, .int .i64 n5, .string q5, .slice p5 l5 c5] 26)) := (Below.refl _ _).alloc (Nat.le_refl _) _
  have bB : Blk (w8.alloc (.cells #[.int .i64 k5, .int .i64 n5, .string q5, .slice p5 l5 c5] 26)) w8.heap.size 26 #[.int .i64 k5, .int .i64 n5, .string q5, .slice p5 l5 c5] := Blk.new _ _ _
  replace iX := iX.below hc9
  replace iA := iA.below hc9
  replace iB := iB.below hc9
  have hb9 := hb8.trans (hc9.mono hb8.size)
  replace bE := bE.here hc9
  replace bX := bX.here hc9
  replace bA := bA.here hc9
  have hE9 := hE8.below hc9
  clear hE8
  have hH9 := hH8.below hc9
  clear hH8
  have hA9 := hA8.below hc9
  clear hA8
  clear hc9 hb8
  obtain ⟨cX0, cX1, cX2, cX3⟩ := bX.four
  have fX0 := bX.frozen 0
  have fX1 := bX.frozen 1
  have fX2 := bX.frozen 2
  have fX3 := bX.frozen 3
  have lX := bX.lt
  go_wp2_with fail
  generalize (w8.alloc (.cells #[.int .i64 k5, .int .i64 n5, .string q5, .slice p5 l5 c5] 26)) = w9 at *
  refine (Name_any _ x _ q HQ.out w9 hE9 iX hsm).mono ?_
  rintro e w10 ⟨rfl, hc10⟩
  replace iX := iX.below hc10
  replace iA := iA.below hc10
  replace iB := iB.below hc10
  have hb10 := hb9.trans (hc10.mono hb9.size)
  replace bE := bE.here hc10
  replace bX := bX.here hc10
  replace bA := bA.here hc10
  replace bB := bB.here hc10
  have hE10 := hE9.below hc10
  clear hE9
  have hH10 := hH9.below hc10
  clear hH9
  have hA10 := hA9.below hc10
  clear hA9
  clear hc10 hb9
  clear cX0 cX1 cX2 cX3 fX0 fX1 fX2 fX3 lX
  unfold nmX
  rw [HO.out, HR.out]
  simp only [nmW, nmV]
  have hc11 : Below w10.heap.size w10 (w10.alloc (.cells #[.int .i64 o.k, .string ⟨o.node.toArray⟩, .string ⟨o.serv.toArray⟩, .int .i64 o.a, .int .i64 o.b] 23)) := (Below.refl _ _).alloc (Nat.le_refl _) _
  have bC : Blk (w10.alloc (.cells #[.int .i64 o.k, .string ⟨o.node.toArray⟩, .string ⟨o.serv.toArray⟩, .int .i64 o.a, .int .i64 o.b] 23)) w10.heap.size 23 #[.int .i64 o.k, .string ⟨o.node.toArray⟩, .string ⟨o.serv.toArray⟩, .int .i64 o.a, .int .i64 o.b] := Blk.new _ _ _
  replace iX := iX.below hc11
  replace iA := iA.below hc11
  replace iB := iB.below hc11
  have hb11 := hb10.trans (hc11.mono hb10.size)
  replace bE := bE.here hc11
  replace bX := bX.here hc11
  replace bA := bA.here hc11
  replace bB := bB.here hc11
  have hE11 := hE10.below hc11
  clear hE10
  have hH11 := hH10.below hc11
  clear hH10
  have hA11 := hA10.below hc11
  clear hA10
  clear hc11 hb10
  obtain ⟨cX0, cX1, cX2, cX3⟩ := bX.four
  have fX0 := bX.frozen 0
  have fX1 := bX.frozen 1
  have fX2 := bX.frozen 2
  have fX3 := bX.frozen 3
  have lX := bX.lt
  go_wp2_with fail
  generalize (w10.alloc (.cells #[.int .i64 o.k, .string ⟨o.node.toArray⟩, .string ⟨o.serv.toArray⟩, .int .i64 o.a, .int .i64 o.b] 23)) = w11 at *
  refine (rjName_any _ x _ w11 iX hsm).mono ?_
  rintro e w12 ⟨rfl, hc12⟩
  replace iX := iX.below hc12
  replace iA := iA.below hc12
  replace iB := iB.below hc12
  have hb12 := hb11.trans (hc12.mono hb11.size)
  replace bE := bE.here hc12
  replace bX := bX.here hc12
  replace bA := bA.here hc12
  replace bB := bB.here hc12
  replace bC := bC.here hc12
  have hE12 := hE11.below hc12
  clear hE11
  have hH12 := hH11.below hc12
  clear hH11
  have hA12 := hA11.below hc12
  clear hA11
  clear hc12 hb11
  clear cX0 cX1 cX2 cX3 fX0 fX1 fX2 fX3 lX
  unfold nmX
  rw [HQ.out, HO.out, HR.out]
  simp only [nmW, nmV]
  have hc13 : Below w12.heap.size w12 (w12.alloc (.cells #[.int .i64 o.k, .string ⟨o.node.toArray⟩, .string ⟨o.serv.toArray⟩, .int .i64 o.a, .int .i64 o.b] 23)) := (Below.refl _ _).alloc (Nat.le_refl _) _
  have bD : Blk (w12.alloc (.cells #[.int .i64 o.k, .string ⟨o.node.toArray⟩, .string ⟨o.serv.toArray⟩, .int .i64 o.a, .int .i64 o.b] 23)) w12.heap.size 23 #[.int .i64 o.k, .string ⟨o.node.toArray⟩, .string ⟨o.serv.toArray⟩, .int .i64 o.a, .int .i64 o.b] := Blk.new _ _ _
  replace iX := iX.below hc13
  replace iA := iA.below hc13
  replace iB := iB.below hc13
  have hb13 := hb12.trans (hc13.mono hb12.size)
  replace bE := bE.here hc13
  replace bX := bX.here hc13
  replace bA := bA.here hc13
  replace bB := bB.here hc13
  replace bC := bC.here hc13
  have hE13 := hE12.below hc13
  clear hE12
  have hH13 := hH12.below hc13
  clear hH12
  have hA13 := hA12.below hc13
  clear hA12
  clear hc13 hb12
  obtain ⟨cA0, cA1, cA2, cA3⟩ := bA.four
  have fA0 := bA.frozen 0
  have fA1 := bA.frozen 1
  have fA2 := bA.frozen 2
  have fA3 := bA.frozen 3
  have lA := bA.lt
  obtain ⟨cB0, cB1, cB2, cB3⟩ := bB.four
  have fB0 := bB.frozen 0
  have fB1 := bB.frozen 1
  have fB2 := bB.frozen 2
  have fB3 := bB.frozen 3
  have lB := bB.lt
  obtain ⟨cC0, cC1, cC2, cC3, cC4⟩ := bC.five
  have fC0 := bC.frozen 0
  have fC1 := bC.frozen 1
  have fC2 := bC.frozen 2
  have fC3 := bC.frozen 3
  have fC4 := bC.frozen 4
  have lC := bC.lt
  obtain ⟨cD0, cD1, cD2, cD3, cD4⟩ := bD.five
  have fD0 := bD.frozen 0
  have fD1 := bD.frozen 1
  have fD2 := bD.frozen 2
  have fD3 := bD.frozen 3
  have fD4 := bD.frozen 4
  have lD := bD.lt
  go_wp2_with fail
  generalize (w12.alloc (.cells #[.int .i64 o.k, .string ⟨o.node.toArray⟩, .string ⟨o.serv.toArray⟩, .int .i64 o.a, .int .i64 o.b] 23)) = w13 at *
  refine (rsame_any _ _ (dep y) y y _ _ w13 (Nat.le_refl _) iA iB).mono ?_
  rintro e w14 ⟨rfl, hc14⟩
  replace iX := iX.below hc14
  replace iA := iA.below hc14
  replace iB := iB.below hc14
  have hb14 := hb13.trans (hc14.mono hb13.size)
  replace bE := bE.here hc14
  replace bX := bX.here hc14
  replace bA := bA.here hc14
  replace bB := bB.here hc14
  replace bC := bC.here hc14
  replace bD := bD.here hc14
  have hE14 := hE13.below hc14
  clear hE13
  have hH14 := hH13.below hc14
  clear hH13
  have hA14 := hA13.below hc14
  clear hA13
  clear hc14 hb13
  clear cC0 cC1 cC2 cC3 cC4 fC0 fC1 fC2 fC3 fC4 lC
  clear cA0 cA1 cA2 cA3 fA0 fA1 fA2 fA3 lA
  clear cD0 cD1 cD2 cD3 cD4 fD0 fD1 fD2 fD3 fD4 lD
  clear cB0 cB1 cB2 cB3 fB0 fB1 fB2 fB3 lB
  rw [sameB_self]
  obtain ⟨cC0, cC1, cC2, cC3, cC4⟩ := bC.five
  have fC0 := bC.frozen 0
  have fC1 := bC.frozen 1
  have fC2 := bC.frozen 2
  have fC3 := bC.frozen 3
  have fC4 := bC.frozen 4
  have lC := bC.lt
  obtain ⟨cD0, cD1, cD2, cD3, cD4⟩ := bD.five
  have fD0 := bD.frozen 0
  have fD1 := bD.frozen 1
  have fD2 := bD.frozen 2
  have fD3 := bD.frozen 3
  have fD4 := bD.frozen 4
  have lD := bD.lt
  go_wp2_with fail
  go_ret
  exact ⟨rfl, hb14⟩

theorem items_walkJ (k : Int) (nd sv : ByteArray) (a b : Int) (X : Itm) (vx : Value) (w : World) (hE : EnvN w) (hH : HeadOK w) (hA : EnvE w) (ha : I64 a) (hbI : I64 b) (hn : nd.size ≤ maxLen) (hs9 : sv.size ≤ maxLen) (hx : ItV (fun _ => True) w X vx) :
    Calls Tryz.prog 3 #[nmV k nd sv a b, vx] w fun e w' => e = .returned (.bool true) ∧ Below w.heap.size w w' := by
  obtain ⟨kx, nx, qx, px, lx, cx, rfl, hCx⟩ := cut_in hx
  have l1 := c21_le nd
  have l2 := c21_le sv
  exact items_ofJ k nd sv _ _ a b kx nx qx px lx cx (cutI 6 X) _ _ _ _ _ w hE hH hA ha hbI hn hs9 rfl rfl (by omega) (by omega) hCx (prt_cut X) rfl rfl rfl rfl

end Go.Proofs.YtmbmolgkccjedaaGreatDoor
