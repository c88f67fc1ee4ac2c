/- The walk of Eid7Back. -/
import Derived.Test.YtmbmolgkccjedaaGreatDoorM29
set_option linter.unusedVariables false
set_option linter.unusedSimpArgs false
namespace Go.Proofs.YtmbmolgkccjedaaGreatDoor
open Go.RowKit
attribute [local go_sem ↓] Go.wp_at_zero Go.wp_at_succ

set_option maxRecDepth 100000 in
set_option maxHeartbeats 4000000 in
theorem back_ofJ00 (k : Int) (nd sv nd2 sv2 : ByteArray) (a b : Int) (kx nx : Int) (qx : ByteArray) (px : Option Addr) (lx cx : Nat) (x : Itm) (s t s2 t2 u v : ByteArray) (y y0 : Itm) (o o9 : Nm) (d i : Int) (w : World) (hE : EnvN w) (hH : HeadOK w) (hA : EnvE w) (ha : I64 a) (hbI : I64 b) (hn : nd.size ≤ maxLen) (hs9 : sv.size ≤ maxLen) (hc1 : c21 nd = nd2) (hc2 : c21 sv = sv2) (hn2 : nd2.size ≤ 4000000000) (hv2 : sv2.size ≤ 4000000000) (hCx : ∀ W, Below w.heap.size w W → Calls Tryz.prog 10 #[.agg #[.int .i64 kx, .int .i64 nx, .string qx, .slice px lx cx]] W (CutR x W)) (hsm : (prt x 1).s.length ≤ 4000000000) (hs : s.size ≤ maxLen) (ht : t.size ≤ maxLen) (hc3 : c300 s = s2) (hc4 : c300 t = t2) (hR : nmR (nmO k nd2 sv2 a b) = false) (hl : layI (nmO k nd2 sv2 a b) = (y, 60)) (hm : nmX (nmI y) = .agg #[.int .i64 0, .string ⟨#[]⟩, .string ⟨#[]⟩, .int .i64 0, .int .i64 0]) (hm2 : erX (nmI y) = 60) (hl2 : encN (nmO k nd2 sv2 a b) = (u, 60)) (hd : nmW (decN v (s2.size : Int)).1 = .agg #[.int .i64 o9.k, .string ⟨o9.node.toArray⟩, .string ⟨o9.serv.toArray⟩, .int .i64 o9.a, .int .i64 o9.b]) (hd1 : (decN v (s2.size : Int)).2.1 = d) (hd2 : (decN v (s2.size : Int)).2.2 = i) (hu : s2 ++ u ++ t2 = v) (hus : v.size ≤ 1000000) (hys : (prt y 1).s.length ≤ 4000000000) (hq : nmX (nmI x) = .agg #[.int .i64 0, .string ⟨#[]⟩, .string ⟨#[]⟩, .int .i64 0, .int .i64 0]) (hq2 : erX (nmI x) = 60) (hl3 : layI (nmO 0 ⟨#[]⟩ ⟨#[]⟩ 0 0) = (y0, 0)) (hz1 : s2.size ≤ 300) (hz2 : u.size ≤ 36540) (hz3 : t2.size ≤ 300) :
    Calls Tryz.prog 5 #[.agg #[.int .i64 k, .string nd, .string sv, .int .i64 a, .int .i64 b], .agg #[.int .i64 kx, .int .i64 nx, .string qx, .slice px lx cx], .string s, .string t] w fun e w' => e = .returned (.bool true) ∧ Below w.heap.size w w' := by
  have HC1 := Lib.hid hc1
  clear hc1
  have HC2 := Lib.hid hc2
  clear hc2
  have HC3 := Lib.hid hc3
  clear hc3
  have HC4 := Lib.hid hc4
  clear hc4
  have HCX := Lib.hid hCx
  clear hCx
  have HR := Lib.hid hR
  clear hR
  have HL := Lib.hid hl
  clear hl
  have HM := Lib.hid hm
  clear hm
  have HM2 := Lib.hid hm2
  clear hm2
  have HL2 := Lib.hid hl2
  clear hl2
  have HD := Lib.hid hd
  clear hd
  have HD1 := Lib.hid hd1
  clear hd1
  have HD2 := Lib.hid hd2
  clear hd2
  have HQ := Lib.hid hq
  clear hq
  have HQ2 := Lib.hid hq2
  clear hq2
  have HL3 := Lib.hid hl3
  clear hl3
  have e2 : ∀ W : World, (binOp .eql 23 (.agg #[.int .i64 0, .string ⟨#[]⟩, .string ⟨#[]⟩, .int .i64 0, .int .i64 0]) (.agg #[.int .i64 0, .string ⟨#[]⟩, .string ⟨#[]⟩, .int .i64 0, .int .i64 0])).run Tryz.prog W = .ok (.bool true) W := nm_self _ _ _ _ _ _ rfl
  have o0 : I64 (0 : Int) := by unfold I64; decide
  have bX_ := Blk.new (w.alloc (.cells #[.int .i64 k, .string nd, .string sv, .int .i64 a, .int .i64 b] 23)) 26 #[.int .i64 kx, .int .i64 nx, .string qx, .slice px lx cx]
  simp only [World.size_alloc] at bX_
  have bE : Blk ((w.alloc (.cells #[.int .i64 k, .string nd, .string sv, .int .i64 a, .int .i64 b] 23)).alloc (.cells #[.int .i64 kx, .int .i64 nx, .string qx, .slice px lx cx] 26)) (w.heap.size) 23 #[.int .i64 k, .string nd, .string sv, .int .i64 a, .int .i64 b] := (Blk.new w _ _).alloc _
  have bX : Blk ((w.alloc (.cells #[.int .i64 k, .string nd, .string sv, .int .i64 a, .int .i64 b] 23)).alloc (.cells #[.int .i64 kx, .int .i64 nx, .string qx, .slice px lx cx] 26)) (w.heap.size + 1) 26 #[.int .i64 kx, .int .i64 nx, .string qx, .slice px lx cx] := bX_
  have hb : Below w.heap.size w ((w.alloc (.cells #[.int .i64 k, .string nd, .string sv, .int .i64 a, .int .i64 b] 23)).alloc (.cells #[.int .i64 kx, .int .i64 nx, .string qx, .slice px lx cx] 26)) := (((Below.refl _ w).alloc (Nat.le_refl _) _).alloc (by simp; try omega) _)
  have hE0 := hE.below hb
  have hH0 := hH.below hb
  have hA0 := hA.below hb
  clear bX_
  go_enter Tryz.func5, Tryz.ntmps5
  go_wp2_with fail
  generalize ((w.alloc (.cells #[.int .i64 k, .string nd, .string sv, .int .i64 a, .int .i64 b] 23)).alloc (.cells #[.int .i64 kx, .int .i64 nx, .string qx, .slice px lx cx] 26)) = w0 at *
  refine (shown_anyJ w0 hE0 hH0 hA0).mono ?_
  rintro e w1 ⟨rfl, hc1⟩
  have hb1 := hb.trans (hc1.mono hb.size)
  replace bE := bE.here hc1
  replace bX := bX.here hc1
  have hE1 := hE0.below hc1
  clear hE0
  have hH1 := hH0.below hc1
  clear hH0
  have hA1 := hA0.below hc1
  clear hA0
  clear hc1 hb
  obtain ⟨cE0, cE1, cE2, cE3, cE4⟩ := bE.five
  have fE0 := bE.frozen 0
  have fE1 := bE.frozen 1
  have fE2 := bE.frozen 2
  have fE3 := bE.frozen 3
  have fE4 := bE.frozen 4
  have lE := bE.lt
  go_wp2_with fail
  refine (lCut_any k nd sv a b w1 hn hs9).mono ?_
  rintro e w2 ⟨rfl, hc2⟩
  have hb2 := hb1.trans (hc2.mono hb1.size)
  replace bE := bE.here hc2
  replace bX := bX.here hc2
  have hE2 := hE1.below hc2
  clear hE1
  have hH2 := hH1.below hc2
  clear hH1
  have hA2 := hA1.below hc2
  clear hA1
  clear hc2 hb1
  rw [HC1.out, HC2.out]
  unfold nmV
  clear cE0 cE1 cE2 cE3 cE4 fE0 fE1 fE2 fE3 fE4 lE
  obtain ⟨cE0, cE1, cE2, cE3, cE4⟩ := bE.five
  have fE0 := bE.frozen 0
  have fE1 := bE.frozen 1
  have fE2 := bE.frozen 2
  have fE3 := bE.frozen 3
  have fE4 := bE.frozen 4
  have lE := bE.lt
  obtain ⟨cX0, cX1, cX2, cX3⟩ := bX.four
  have fX0 := bX.frozen 0
  have fX1 := bX.frozen 1
  have fX2 := bX.frozen 2
  have fX3 := bX.frozen 3
  have lX := bX.lt
  go_wp2_with fail
  clear cE0 cE1 cE2 cE3 cE4 fE0 fE1 fE2 fE3 fE4 lE
  clear cX0 cX1 cX2 cX3 fX0 fX1 fX2 fX3 lX
  have hb3 : Below w.heap.size w (((((w2.setCell ⟨w.heap.size, 0, none⟩ (.int .i64 k)).setCell ⟨w.heap.size, 1, none⟩ (.string nd2)).setCell ⟨w.heap.size, 2, none⟩ (.string sv2)).setCell ⟨w.heap.size, 3, none⟩ (.int .i64 a)).setCell ⟨w.heap.size, 4, none⟩ (.int .i64 b)) := (below_sets5 (B := w.heap.size) hb2 (by have := hb2.size; omega) _ _ _ _ _)
  have bE_ : Blk (((((w2.setCell ⟨w.heap.size, 0, none⟩ (.int .i64 k)).setCell ⟨w.heap.size, 1, none⟩ (.string nd2)).setCell ⟨w.heap.size, 2, none⟩ (.string sv2)).setCell ⟨w.heap.size, 3, none⟩ (.int .i64 a)).setCell ⟨w.heap.size, 4, none⟩ (.int .i64 b)) (w.heap.size) 23 #[.int .i64 k, .string nd2, .string sv2, .int .i64 a, .int .i64 b] := (bE.set5 _ _ _ _ _)
  have bX_ : Blk (((((w2.setCell ⟨w.heap.size, 0, none⟩ (.int .i64 k)).setCell ⟨w.heap.size, 1, none⟩ (.string nd2)).setCell ⟨w.heap.size, 2, none⟩ (.string sv2)).setCell ⟨w.heap.size, 3, none⟩ (.int .i64 a)).setCell ⟨w.heap.size, 4, none⟩ (.int .i64 b)) (w.heap.size + 1) 26 #[.int .i64 kx, .int .i64 nx, .string qx, .slice px lx cx] := (Blk.sets5 (by omega) bX _ _ _ _ _)
  clear bE bX
  have bE := bE_
  clear bE_
  have bX := bX_
  clear bX_
  have hE3 := hE.below hb3
  clear hE2
  have hH3 := hH.below hb3
  clear hH2
  have hA3 := hA.below hb3
  clear hA2
  clear hb2
  generalize (((((w2.setCell ⟨w.heap.size, 0, none⟩ (.int .i64 k)).setCell ⟨w.heap.size, 1, none⟩ (.string nd2)).setCell ⟨w.heap.size, 2, none⟩ (.string sv2)).setCell ⟨w.heap.size, 3, none⟩ (.int .i64 a)).setCell ⟨w.heap.size, 4, none⟩ (.int .i64 b)) = w3 at *
  obtain ⟨cX0, cX1, cX2, cX3⟩ := bX.four
  have fX0 := bX.frozen 0
  have fX1 := bX.frozen 1
  have fX2 := bX.frozen 2
  have fX3 := bX.frozen 3
  have lX := bX.lt
  refine (HCX.out w3 hb3).mono ?_
  rintro e w4 ⟨k3, n3, q3, p3, l3, c3, rfl, iX, hc4⟩
  have hb4 := hb3.trans (hc4.mono hb3.size)
  replace bE := bE.here hc4
  replace bX := bX.here hc4
  have hE4 := hE3.below hc4
  clear hE3
  have hH4 := hH3.below hc4
  clear hH3
  have hA4 := hA3.below hc4
  clear hA3
  replace iX := iX.mono (ok' := fun b => w.heap.size + 2 ≤ b) (fun b _ hb => by have h2 : w3.heap.size ≤ b := hb; omega)
  clear hc4 hb3
  clear cX0 cX1 cX2 cX3 fX0 fX1 fX2 fX3 lX
  obtain ⟨cX0, cX1, cX2, cX3⟩ := bX.four
  have fX0 := bX.frozen 0
  have fX1 := bX.frozen 1
  have fX2 := bX.frozen 2
  have fX3 := bX.frozen 3
  have lX := bX.lt
  obtain ⟨cE0, cE1, cE2, cE3, cE4⟩ := bE.five
  have fE0 := bE.frozen 0
  have fE1 := bE.frozen 1
  have fE2 := bE.frozen 2
  have fE3 := bE.frozen 3
  have fE4 := bE.frozen 4
  have lE := bE.lt
  go_wp2_with fail
  clear cE0 cE1 cE2 cE3 cE4 fE0 fE1 fE2 fE3 fE4 lE
  clear cX0 cX1 cX2 cX3 fX0 fX1 fX2 fX3 lX
  have hb5 : Below w.heap.size w ((((w4.setCell ⟨w.heap.size + 1, 0, none⟩ (.int .i64 k3)).setCell ⟨w.heap.size + 1, 1, none⟩ (.int .i64 n3)).setCell ⟨w.heap.size + 1, 2, none⟩ (.string q3)).setCell ⟨w.heap.size + 1, 3, none⟩ (.slice p3 l3 c3)) := (below_sets4 (B := w.heap.size + 1) hb4 (by have := hb4.size; omega) _ _ _ _)
  have bE_ : Blk ((((w4.setCell ⟨w.heap.size + 1, 0, none⟩ (.int .i64 k3)).setCell ⟨w.heap.size + 1, 1, none⟩ (.int .i64 n3)).setCell ⟨w.heap.size + 1, 2, none⟩ (.string q3)).setCell ⟨w.heap.size + 1, 3, none⟩ (.slice p3 l3 c3)) (w.heap.size) 23 #[.int .i64 k, .string nd2, .string sv2, .int .i64 a, .int .i64 b] := (Blk.sets4 (by omega) bE _ _ _ _)
  have bX_ : Blk ((((w4.setCell ⟨w.heap.size + 1, 0, none⟩ (.int .i64 k3)).setCell ⟨w.heap.size + 1, 1, none⟩ (.int .i64 n3)).setCell ⟨w.heap.size + 1, 2, none⟩ (.string q3)).setCell ⟨w.heap.size + 1, 3, none⟩ (.slice p3 l3 c3)) (w.heap.size + 1) 26 #[.int .i64 k3, .int .i64 n3, .string q3, .slice p3 l3 c3] := (bX.set4 _ _ _ _)
  clear bE bX
  have bE := bE_
  clear bE_
  have bX := bX_
  clear bX_
  replace iX := ((((iX.setc (R := w.heap.size + 1) (by omega) 0 (.int .i64 k3)).setc (R := w.heap.size + 1) (by omega) 1 (.int .i64 n3)).setc (R := w.heap.size + 1) (by omega) 2 (.string q3)).setc (R := w.heap.size + 1) (by omega) 3 (.slice p3 l3 c3))
  have hE5 := hE.below hb5
  clear hE4
  have hH5 := hH.below hb5
  clear hH4
  have hA5 := hA.below hb5
  clear hA4
  clear hb4
  generalize ((((w4.setCell ⟨w.heap.size + 1, 0, none⟩ (.int .i64 k3)).setCell ⟨w.heap.size + 1, 1, none⟩ (.int .i64 n3)).setCell ⟨w.heap.size + 1, 2, none⟩ (.string q3)).setCell ⟨w.heap.size + 1, 3, none⟩ (.slice p3 l3 c3)) = w5 at *
  refine (lcut_anyJ s _ hs).mono ?_
  rintro e w' ⟨rfl, rfl⟩
  rw [HC3.out]
  go_wp2_with fail
  refine (lcut_anyJ t _ ht).mono ?_
  rintro e w' ⟨rfl, rfl⟩
  rw [HC4.out]
  obtain ⟨cE0, cE1, cE2, cE3, cE4⟩ := bE.five
  have fE0 := bE.frozen 0
  have fE1 := bE.frozen 1
  have fE2 := bE.frozen 2
  have fE3 := bE.frozen 3
  have fE4 := bE.frozen 4
  have lE := bE.lt
  go_wp2_with fail
  refine (Item_any k nd2 sv2 a b y _ HL.out w5 hE5 ha hbI).mono ?_
  rintro e w6 ⟨⟨k4, n4, q4, p4, l4, c4, rfl, iA⟩, hc6⟩
  replace iX := iX.below hc6
  have hb6 := hb5.trans (hc6.mono hb5.size)
  replace bE := bE.here hc6
  replace bX := bX.here hc6
  have hE6 := hE5.below hc6
  clear hE5
  have hH6 := hH5.below hc6
  clear hH5
  have hA6 := hA5.below hc6
  clear hA5
  clear hc6 hb5
  clear cE0 cE1 cE2 cE3 cE4 fE0 fE1 fE2 fE3 fE4 lE
  have hc7 : Below w6.heap.size w6 (w6.alloc (.cells #[.int .i64 k4, .int .i64 n4, .string q4, .slice p4 l4 c4] 26)) := (Below.refl _ _).alloc (Nat.le_refl _) _
  have bA : Blk (w6.alloc (.cells #[.int .i64 k4, .int .i64 n4, .string q4, .slice p4 l4 c4] 26)) w6.heap.size 26 #[.int .i64 k4, .int .i64 n4, .string q4, .slice p4 l4 c4] := Blk.new _ _ _
  replace iX := iX.below hc7
  replace iA := iA.below hc7
  have hb7 := hb6.trans (hc7.mono hb6.size)
  replace bE := bE.here hc7
  replace bX := bX.here hc7
  have hE7 := hE6.below hc7
  clear hE6
  have hH7 := hH6.below hc7
  clear hH6
  have hA7 := hA6.below hc7
  clear hA6
  clear hc7 hb6
  obtain ⟨cA0, cA1, cA2, cA3⟩ := bA.four
  have fA0 := bA.frozen 0
  have fA1 := bA.frozen 1
  have fA2 := bA.frozen 2
  have fA3 := bA.frozen 3
  have lA := bA.lt
  go_wp2_with fail
  generalize (w6.alloc (.cells #[.int .i64 k4, .int .i64 n4, .string q4, .slice p4 l4 c4] 26)) = w7 at *
  refine (Name_any _ y _ _ rfl w7 hE7 iA hys).mono ?_
  rintro e w8 ⟨rfl, hc8⟩
  replace iX := iX.below hc8
  replace iA := iA.below hc8
  have hb8 := hb7.trans (hc8.mono hb7.size)
  replace bE := bE.here hc8
  replace bX := bX.here hc8
  replace bA := bA.here hc8
  have hE8 := hE7.below hc8
  clear hE7
  have hH8 := hH7.below hc8
  clear hH7
  have hA8 := hA7.below hc8
  clear hA7
  clear hc8 hb7
  clear cA0 cA1 cA2 cA3 fA0 fA1 fA2 fA3 lA
  rw [HM.out, HM2.out]
  clear bA
  clear iA
  have hc9 : Below w8.heap.size w8 (w8.alloc (.cells #[.int .i64 0, .string ⟨#[]⟩, .string ⟨#[]⟩, .int .i64 0, .int .i64 0] 23)) := (Below.refl _ _).alloc (Nat.le_refl _) _
  have bN : Blk (w8.alloc (.cells #[.int .i64 0, .string ⟨#[]⟩, .string ⟨#[]⟩, .int .i64 0, .int .i64 0] 23)) w8.heap.size 23 #[.int .i64 0, .string ⟨#[]⟩, .string ⟨#[]⟩, .int .i64 0, .int .i64 0] := Blk.new _ _ _
  replace iX := iX.below hc9
  have hb9 := hb8.trans (hc9.mono hb8.size)
  replace bE := bE.here hc9
  replace bX := bX.here hc9
  have hE9 := hE8.below hc9
  clear hE8
  have hH9 := hH8.below hc9
  clear hH8
  have hA9 := hA8.below hc9
  clear hA8
  clear hc9 hb8
  obtain ⟨cE0, cE1, cE2, cE3, cE4⟩ := bE.five
  have fE0 := bE.frozen 0
  have fE1 := bE.frozen 1
  have fE2 := bE.frozen 2
  have fE3 := bE.frozen 3
  have fE4 := bE.frozen 4
  have lE := bE.lt
  go_wp2_with fail
  generalize (w8.alloc (.cells #[.int .i64 0, .string ⟨#[]⟩, .string ⟨#[]⟩, .int .i64 0, .int .i64 0] 23)) = w9 at *
  refine (Encode_any k nd2 sv2 a b w9 hE9 hH9 hA9 ha hbI).mono ?_
  rintro e w10 ⟨rfl, hc10⟩
  replace iX := iX.below hc10
  have hb10 := hb9.trans (hc10.mono hb9.size)
  replace bE := bE.here hc10
  replace bX := bX.here hc10
  replace bN := bN.here hc10
  have hE10 := hE9.below hc10
  clear hE9
  have hH10 := hH9.below hc10
  clear hH9
  have hA10 := hA9.below hc10
  clear hA9
  clear hc10 hb9
  rw [HL2.out]
  clear cE0 cE1 cE2 cE3 cE4 fE0 fE1 fE2 fE3 fE4 lE
  go_wp2_with fail
  refine (Decode_any v (s2.size : Int) w10 hE10 hH10 hA10 hus).mono ?_
  rintro e w11 ⟨rfl, hc11⟩
  replace iX := iX.below hc11
  have hb11 := hb10.trans (hc11.mono hb10.size)
  replace bE := bE.here hc11
  replace bX := bX.here hc11
  replace bN := bN.here hc11
  have hE11 := hE10.below hc11
  clear hE10
  have hH11 := hH10.below hc11
  clear hH10
  have hA11 := hA10.below hc11
  clear hA10
  clear hc11 hb10
  rw [HD.out, HD1.out, HD2.out]
  have hc12 : Below w11.heap.size w11 (w11.alloc (.cells #[.int .i64 o9.k, .string ⟨o9.node.toArray⟩, .string ⟨o9.serv.toArray⟩, .int .i64 o9.a, .int .i64 o9.b] 23)) := (Below.refl _ _).alloc (Nat.le_refl _) _
  have bD : Blk (w11.alloc (.cells #[.int .i64 o9.k, .string ⟨o9.node.toArray⟩, .string ⟨o9.serv.toArray⟩, .int .i64 o9.a, .int .i64 o9.b] 23)) w11.heap.size 23 #[.int .i64 o9.k, .string ⟨o9.node.toArray⟩, .string ⟨o9.serv.toArray⟩, .int .i64 o9.a, .int .i64 o9.b] := Blk.new _ _ _
  replace iX := iX.below hc12
  have hb12 := hb11.trans (hc12.mono hb11.size)
  replace bE := bE.here hc12
  replace bX := bX.here hc12
  replace bN := bN.here hc12
  have hE12 := hE11.below hc12
  clear hE11
  have hH12 := hH11.below hc12
  clear hH11
  have hA12 := hA11.below hc12
  clear hA11
  clear hc12 hb11
  obtain ⟨cX0, cX1, cX2, cX3⟩ := bX.four
  have fX0 := bX.frozen 0
  have fX1 := bX.frozen 1
  have fX2 := bX.frozen 2
  have fX3 := bX.frozen 3
  have lX := bX.lt
  go_wp2_with fail
  generalize (w11.alloc (.cells #[.int .i64 o9.k, .string ⟨o9.node.toArray⟩, .string ⟨o9.serv.toArray⟩, .int .i64 o9.a, .int .i64 o9.b] 23)) = w12 at *
  refine (Name_any _ x _ _ rfl w12 hE12 iX hsm).mono ?_
  rintro e w13 ⟨rfl, hc13⟩
  replace iX := iX.below hc13
  have hb13 := hb12.trans (hc13.mono hb12.size)
  replace bE := bE.here hc13
  replace bX := bX.here hc13
  replace bN := bN.here hc13
  replace bD := bD.here hc13
  have hE13 := hE12.below hc13
  clear hE12
  have hH13 := hH12.below hc13
  clear hH12
  have hA13 := hA12.below hc13
  clear hA12
  clear hc13 hb12
  clear cX0 cX1 cX2 cX3 fX0 fX1 fX2 fX3 lX
  rw [HQ.out, HQ2.out]
  clear bN
  clear bD
  have hc14 : Below w13.heap.size w13 (w13.alloc (.cells #[.int .i64 0, .string ⟨#[]⟩, .string ⟨#[]⟩, .int .i64 0, .int .i64 0] 23)) := (Below.refl _ _).alloc (Nat.le_refl _) _
  have bC : Blk (w13.alloc (.cells #[.int .i64 0, .string ⟨#[]⟩, .string ⟨#[]⟩, .int .i64 0, .int .i64 0] 23)) w13.heap.size 23 #[.int .i64 0, .string ⟨#[]⟩, .string ⟨#[]⟩, .int .i64 0, .int .i64 0] := Blk.new _ _ _
  replace iX := iX.below hc14
  have hb14 := hb13.trans (hc14.mono hb13.size)
  replace bE := bE.here hc14
  replace bX := bX.here hc14
  have hE14 := hE13.below hc14
  clear hE13
  have hH14 := hH13.below hc14
  clear hH13
  have hA14 := hA13.below hc14
  clear hA13
  clear hc14 hb13
  obtain ⟨cC0, cC1, cC2, cC3, cC4⟩ := bC.five
  have fC0 := bC.frozen 0
  have fC1 := bC.frozen 1
  have fC2 := bC.frozen 2
  have fC3 := bC.frozen 3
  have fC4 := bC.frozen 4
  have lC := bC.lt
  go_wp2_with fail
  generalize (w13.alloc (.cells #[.int .i64 0, .string ⟨#[]⟩, .string ⟨#[]⟩, .int .i64 0, .int .i64 0] 23)) = w14 at *
  refine (Item_any 0 ⟨#[]⟩ ⟨#[]⟩ 0 0 y0 0 HL3.out w14 hE14 o0 o0).mono ?_
  rintro e w15 ⟨⟨k5, n5, q5, p5, l5, c5, rfl, iZ⟩, hc15⟩
  replace iX := iX.below hc15
  have hb15 := hb14.trans (hc15.mono hb14.size)
  replace bE := bE.here hc15
  replace bX := bX.here hc15
  replace bC := bC.here hc15
  have hE15 := hE14.below hc15
  clear hE14
  have hH15 := hH14.below hc15
  clear hH14
  have hA15 := hA14.below hc15
  clear hA14
  clear hc15 hb14
  clear cC0 cC1 cC2 cC3 cC4 fC0 fC1 fC2 fC3 fC4 lC
  have hc16 : Below w15.heap.size w15 (w15.alloc (.cells #[.int .i64 k5, .int .i64 n5, .string q5, .slice p5 l5 c5] 26)) := (Below.refl _ _).alloc (Nat.le_refl _) _
  have bZ : Blk (w15.alloc (.cells #[.int .i64 k5, .int .i64 n5, .string q5, .slice p5 l5 c5] 26)) w15.heap.size 26 #[.int .i64 k5, .int .i64 n5, .string q5, .slice p5 l5 c5] := Blk.new _ _ _
  replace iX := iX.below hc16
  replace iZ := iZ.below hc16
  have hb16 := hb15.trans (hc16.mono hb15.size)
  replace bE := bE.here hc16
  replace bX := bX.here hc16
  replace bC := bC.here hc16
  have hE16 := hE15.below hc16
  clear hE15
  have hH16 := hH15.below hc16
  clear hH15
  have hA16 := hA15.below hc16
  clear hA15
  clear hc16 hb15
  obtain ⟨cE0, cE1, cE2, cE3, cE4⟩ := bE.five
  have fE0 := bE.frozen 0
  have fE1 := bE.frozen 1
  have fE2 := bE.frozen 2
  have fE3 := bE.frozen 3
  have fE4 := bE.frozen 4
  have lE := bE.lt
  go_wp2_with fail
  generalize (w15.alloc (.cells #[.int .i64 k5, .int .i64 n5, .string q5, .slice p5 l5 c5] 26)) = w16 at *
  refine (eright_any k nd2 sv2 a b w16 hE16 ha hbI).mono ?_
  rintro e w17 ⟨rfl, hc17⟩
  replace iX := iX.below hc17
  replace iZ := iZ.below hc17
  have hb17 := hb16.trans (hc17.mono hb16.size)
  replace bE := bE.here hc17
  replace bX := bX.here hc17
  replace bC := bC.here hc17
  replace bZ := bZ.here hc17
  have hE17 := hE16.below hc17
  clear hE16
  have hH17 := hH16.below hc17
  clear hH16
  have hA17 := hA16.below hc17
  clear hA16
  clear hc17 hb16
  clear cE0 cE1 cE2 cE3 cE4 fE0 fE1 fE2 fE3 fE4 lE
  rw [HR.out]
  obtain ⟨cC0, cC1, cC2, cC3, cC4⟩ := bC.five
  have fC0 := bC.frozen 0
  have fC1 := bC.frozen 1
  have fC2 := bC.frozen 2
  have fC3 := bC.frozen 3
  have fC4 := bC.frozen 4
  have lC := bC.lt
  go_wp2_with fail
  go_ret
  exact ⟨rfl, hb17⟩

set_option maxRecDepth 100000 in
set_option maxHeartbeats 4000000 in
theorem back_ofJ01 (k : Int) (nd sv nd2 sv2 : ByteArray) (a b : Int) (kx nx : Int) (qx : ByteArray) (px : Option Addr) (lx cx : Nat) (x : Itm) (s t s2 t2 u v : ByteArray) (y y0 : Itm) (o o9 : Nm) (d i : Int) (w : World) (hE : EnvN w) (hH : HeadOK w) (hA : EnvE w) (ha : I64 a) (hbI : I64 b) (hn : nd.size ≤ maxLen) (hs9 : sv.size ≤ maxLen) (hc1 : c21 nd = nd2) (hc2 : c21 sv = sv2) (hn2 : nd2.size ≤ 4000000000) (hv2 : sv2.size ≤ 4000000000) (hCx : ∀ W, Below w.heap.size w W → Calls Tryz.prog 10 #[.agg #[.int .i64 kx, .int .i64 nx, .string qx, .slice px lx cx]] W (CutR x W)) (hsm : (prt x 1).s.length ≤ 4000000000) (hs : s.size ≤ maxLen) (ht : t.size ≤ maxLen) (hc3 : c300 s = s2) (hc4 : c300 t = t2) (hR : nmR (nmO k nd2 sv2 a b) = false) (hl : layI (nmO k nd2 sv2 a b) = (y, 60)) (hm : nmX (nmI y) = .agg #[.int .i64 0, .string ⟨#[]⟩, .string ⟨#[]⟩, .int .i64 0, .int .i64 0]) (hm2 : erX (nmI y) = 60) (hl2 : encN (nmO k nd2 sv2 a b) = (u, 60)) (hd : nmW (decN v (s2.size : Int)).1 = .agg #[.int .i64 o9.k, .string ⟨o9.node.toArray⟩, .string ⟨o9.serv.toArray⟩, .int .i64 o9.a, .int .i64 o9.b]) (hd1 : (decN v (s2.size : Int)).2.1 = d) (hd2 : (decN v (s2.size : Int)).2.2 = i) (hu : s2 ++ u ++ t2 = v) (hus : v.size ≤ 1000000) (hys : (prt y 1).s.length ≤ 4000000000) (hq : nmX (nmI x) = .agg #[.int .i64 o.k, .string ⟨o.node.toArray⟩, .string ⟨o.serv.toArray⟩, .int .i64 o.a, .int .i64 o.b]) (hq2 : erX (nmI x) = 0) (hl3 : layI (nmO o.k ⟨o.node.toArray⟩ ⟨o.serv.toArray⟩ o.a o.b) = (x, 0)) (oa : I64 o.a) (ob : I64 o.b) (hz1 : s2.size ≤ 300) (hz2 : u.size ≤ 36540) (hz3 : t2.size ≤ 300) :
    Calls Tryz.prog 5 #[.agg #[.int .i64 k, .string nd, .string sv, .int .i64 a, .int .i64 b], .agg #[.int .i64 kx, .int .i64 nx, .string qx, .slice px lx cx], .string s, .string t] w fun e w' => e = .returned (.bool true) ∧ Below w.heap.size w w' := by
  have HC1 := Lib.hid hc1
  clear hc1
  have HC2 := Lib.hid hc2
  clear hc2
  have HC3 := Lib.hid hc3
  clear hc3
  have HC4 := Lib.hid hc4
  clear hc4
  have HCX := Lib.hid hCx
  clear hCx
  have HR := Lib.hid hR
  clear hR
  have HL := Lib.hid hl
  clear hl
  have HM := Lib.hid hm
  clear hm
  have HM2 := Lib.hid hm2
  clear hm2
  have HL2 := Lib.hid hl2
  clear hl2
  have HD := Lib.hid hd
  clear hd
  have HD1 := Lib.hid hd1
  clear hd1
  have HD2 := Lib.hid hd2
  clear hd2
  have HQ := Lib.hid hq
  clear hq
  have HQ2 := Lib.hid hq2
  clear hq2
  have HL3 := Lib.hid hl3
  clear hl3
  have bX_ := Blk.new (w.alloc (.cells #[.int .i64 k, .string nd, .string sv, .int .i64 a, .int .i64 b] 23)) 26 #[.int .i64 kx, .int .i64 nx, .string qx, .slice px lx cx]
  simp only [World.size_alloc] at bX_
  have bE : Blk ((w.alloc (.cells #[.int .i64 k, .string nd, .string sv, .int .i64 a, .int .i64 b] 23)).alloc (.cells #[.int .i64 kx, .int .i64 nx, .string qx, .slice px lx cx] 26)) (w.heap.size) 23 #[.int .i64 k, .string nd, .string sv, .int .i64 a, .int .i64 b] := (Blk.new w _ _).alloc _
  have bX : Blk ((w.alloc (.cells #[.int .i64 k, .string nd, .string sv, .int .i64 a, .int .i64 b] 23)).alloc (.cells #[.int .i64 kx, .int .i64 nx, .string qx, .slice px lx cx] 26)) (w.heap.size + 1) 26 #[.int .i64 kx, .int .i64 nx, .string qx, .slice px lx cx] := bX_
  have hb : Below w.heap.size w ((w.alloc (.cells #[.int .i64 k, .string nd, .string sv, .int .i64 a, .int .i64 b] 23)).alloc (.cells #[.int .i64 kx, .int .i64 nx, .string qx, .slice px lx cx] 26)) := (((Below.refl _ w).alloc (Nat.le_refl _) _).alloc (by simp; try omega) _)
  have hE0 := hE.below hb
  have hH0 := hH.below hb
  have hA0 := hA.below hb
  clear bX_
  go_enter Tryz.func5, Tryz.ntmps5
  go_wp2_with fail
  generalize ((w.alloc (.cells #[.int .i64 k, .string nd, .string sv, .int .i64 a, .int .i64 b] 23)).alloc (.cells #[.int .i64 kx, .int .i64 nx, .string qx, .slice px lx cx] 26)) = w0 at *
  refine (shown_anyJ w0 hE0 hH0 hA0).mono ?_
  rintro e w1 ⟨rfl, hc1⟩
  have hb1 := hb.trans (hc1.mono hb.size)
  replace bE := bE.here hc1
  replace bX := bX.here hc1
  have hE1 := hE0.below hc1
  clear hE0
  have hH1 := hH0.below hc1
  clear hH0
  have hA1 := hA0.below hc1
  clear hA0
  clear hc1 hb
  obtain ⟨cE0, cE1, cE2, cE3, cE4⟩ := bE.five
  have fE0 := bE.frozen 0
  have fE1 := bE.frozen 1
  have fE2 := bE.frozen 2
  have fE3 := bE.frozen 3
  have fE4 := bE.frozen 4
  have lE := bE.lt
  go_wp2_with fail
  refine (lCut_any k nd sv a b w1 hn hs9).mono ?_
  rintro e w2 ⟨rfl, hc2⟩
  have hb2 := hb1.trans (hc2.mono hb1.size)
  replace bE := bE.here hc2
  replace bX := bX.here hc2
  have hE2 := hE1.below hc2
  clear hE1
  have hH2 := hH1.below hc2
  clear hH1
  have hA2 := hA1.below hc2
  clear hA1
  clear hc2 hb1
  rw [HC1.out, HC2.out]
  unfold nmV
  clear cE0 cE1 cE2 cE3 cE4 fE0 fE1 fE2 fE3 fE4 lE
  obtain ⟨cE0, cE1, cE2, cE3, cE4⟩ := bE.five
  have fE0 := bE.frozen 0
  have fE1 := bE.frozen 1
  have fE2 := bE.frozen 2
  have fE3 := bE.frozen 3
  have fE4 := bE.frozen 4
  have lE := bE.lt
  obtain ⟨cX0, cX1, cX2, cX3⟩ := bX.four
  have fX0 := bX.frozen 0
  have fX1 := bX.frozen 1
  have fX2 := bX.frozen 2
  have fX3 := bX.frozen 3
  have lX := bX.lt
  go_wp2_with fail
  clear cE0 cE1 cE2 cE3 cE4 fE0 fE1 fE2 fE3 fE4 lE
  clear cX0 cX1 cX2 cX3 fX0 fX1 fX2 fX3 lX
  have hb3 : Below w.heap.size w (((((w2.setCell ⟨w.heap.size, 0, none⟩ (.int .i64 k)).setCell ⟨w.heap.size, 1, none⟩ (.string nd2)).setCell ⟨w.heap.size, 2, none⟩ (.string sv2)).setCell ⟨w.heap.size, 3, none⟩ (.int .i64 a)).setCell ⟨w.heap.size, 4, none⟩ (.int .i64 b)) := (below_sets5 (B := w.heap.size) hb2 (by have := hb2.size; omega) _ _ _ _ _)
  have bE_ : Blk (((((w2.setCell ⟨w.heap.size, 0, none⟩ (.int .i64 k)).setCell ⟨w.heap.size, 1, none⟩ (.string nd2)).setCell ⟨w.heap.size, 2, none⟩ (.string sv2)).setCell ⟨w.heap.size, 3, none⟩ (.int .i64 a)).setCell ⟨w.heap.size, 4, none⟩ (.int .i64 b)) (w.heap.size) 23 #[.int .i64 k, .string nd2, .string sv2, .int .i64 a, .int .i64 b] := (bE.set5 _ _ _ _ _)
  have bX_ : Blk (((((w2.setCell ⟨w.heap.size, 0, none⟩ (.int .i64 k)).setCell ⟨w.heap.size, 1, none⟩ (.string nd2)).setCell ⟨w.heap.size, 2, none⟩ (.string sv2)).setCell ⟨w.heap.size, 3, none⟩ (.int .i64 a)).setCell ⟨w.heap.size, 4, none⟩ (.int .i64 b)) (w.heap.size + 1) 26 #[.int .i64 kx, .int .i64 nx, .string qx, .slice px lx cx] := (Blk.sets5 (by omega) bX _ _ _ _ _)
  clear bE bX
  have bE := bE_
  clear bE_
  have bX := bX_
  clear bX_
  have hE3 := hE.below hb3
  clear hE2
  have hH3 := hH.below hb3
  clear hH2
  have hA3 := hA.below hb3
  clear hA2
  clear hb2
  generalize (((((w2.setCell ⟨w.heap.size, 0, none⟩ (.int .i64 k)).setCell ⟨w.heap.size, 1, none⟩ (.string nd2)).setCell ⟨w.heap.size, 2, none⟩ (.string sv2)).setCell ⟨w.heap.size, 3, none⟩ (.int .i64 a)).setCell ⟨w.heap.size, 4, none⟩ (.int .i64 b)) = w3 at *
  obtain ⟨cX0, cX1, cX2, cX3⟩ := bX.four
  have fX0 := bX.frozen 0
  have fX1 := bX.frozen 1
  have fX2 := bX.frozen 2
  have fX3 := bX.frozen 3
  have lX := bX.lt
  refine (HCX.out w3 hb3).mono ?_
  rintro e w4 ⟨k3, n3, q3, p3, l3, c3, rfl, iX, hc4⟩
  have hb4 := hb3.trans (hc4.mono hb3.size)
  replace bE := bE.here hc4
  replace bX := bX.here hc4
  have hE4 := hE3.below hc4
  clear hE3
  have hH4 := hH3.below hc4
  clear hH3
  have hA4 := hA3.below hc4
  clear hA3
  replace iX := iX.mono (ok' := fun b => w.heap.size + 2 ≤ b) (fun b _ hb => by have h2 : w3.heap.size ≤ b := hb; omega)
  clear hc4 hb3
  clear cX0 cX1 cX2 cX3 fX0 fX1 fX2 fX3 lX
  obtain ⟨cX0, cX1, cX2, cX3⟩ := bX.four
  have fX0 := bX.frozen 0
  have fX1 := bX.frozen 1
  have fX2 := bX.frozen 2
  have fX3 := bX.frozen 3
  have lX := bX.lt
  obtain ⟨cE0, cE1, cE2, cE3, cE4⟩ := bE.five
  have fE0 := bE.frozen 0
  have fE1 := bE.frozen 1
  have fE2 := bE.frozen 2
  have fE3 := bE.frozen 3
  have fE4 := bE.frozen 4
  have lE := bE.lt
  go_wp2_with fail
  clear cE0 cE1 cE2 cE3 cE4 fE0 fE1 fE2 fE3 fE4 lE
  clear cX0 cX1 cX2 cX3 fX0 fX1 fX2 fX3 lX
  have hb5 : Below w.heap.size w ((((w4.setCell ⟨w.heap.size + 1, 0, none⟩ (.int .i64 k3)).setCell ⟨w.heap.size + 1, 1, none⟩ (.int .i64 n3)).setCell ⟨w.heap.size + 1, 2, none⟩ (.string q3)).setCell ⟨w.heap.size + 1, 3, none⟩ (.slice p3 l3 c3)) := (below_sets4 (B := w.heap.size + 1) hb4 (by have := hb4.size; omega) _ _ _ _)
  have bE_ : Blk ((((w4.setCell ⟨w.heap.size + 1, 0, none⟩ (.int .i64 k3)).setCell ⟨w.heap.size + 1, 1, none⟩ (.int .i64 n3)).setCell ⟨w.heap.size + 1, 2, none⟩ (.string q3)).setCell ⟨w.heap.size + 1, 3, none⟩ (.slice p3 l3 c3)) (w.heap.size) 23 #[.int .i64 k, .string nd2, .string sv2, .int .i64 a, .int .i64 b] := (Blk.sets4 (by omega) bE _ _ _ _)
  have bX_ : Blk ((((w4.setCell ⟨w.heap.size + 1, 0, none⟩ (.int .i64 k3)).setCell ⟨w.heap.size + 1, 1, none⟩ (.int .i64 n3)).setCell ⟨w.heap.size + 1, 2, none⟩ (.string q3)).setCell ⟨w.heap.size + 1, 3, none⟩ (.slice p3 l3 c3)) (w.heap.size + 1) 26 #[.int .i64 k3, .int .i64 n3, .string q3, .slice p3 l3 c3] := (bX.set4 _ _ _ _)
  clear bE bX
  have bE := bE_
  clear bE_
  have bX := bX_
  clear bX_
  replace iX := ((((iX.setc (R := w.heap.size + 1) (by omega) 0 (.int .i64 k3)).setc (R := w.heap.size + 1) (by omega) 1 (.int .i64 n3)).setc (R := w.heap.size + 1) (by omega) 2 (.string q3)).setc (R := w.heap.size + 1) (by omega) 3 (.slice p3 l3 c3))
  have hE5 := hE.below hb5
  clear hE4
  have hH5 := hH.below hb5
  clear hH4
  have hA5 := hA.below hb5
  clear hA4
  clear hb4
  generalize ((((w4.setCell ⟨w.heap.size + 1, 0, none⟩ (.int .i64 k3)).setCell ⟨w.heap.size + 1, 1, none⟩ (.int .i64 n3)).setCell ⟨w.heap.size + 1, 2, none⟩ (.string q3)).setCell ⟨w.heap.size + 1, 3, none⟩ (.slice p3 l3 c3)) = w5 at *
  refine (lcut_anyJ s _ hs).mono ?_
  rintro e w' ⟨rfl, rfl⟩
  rw [HC3.out]
  go_wp2_with fail
  refine (lcut_anyJ t _ ht).mono ?_
  rintro e w' ⟨rfl, rfl⟩
  rw [HC4.out]
  obtain ⟨cE0, cE1, cE2, cE3, cE4⟩ := bE.five
  have fE0 := bE.frozen 0
  have fE1 := bE.frozen 1
  have fE2 := bE.frozen 2
  have fE3 := bE.frozen 3
  have fE4 := bE.frozen 4
  have lE := bE.lt
  go_wp2_with fail
  refine (Item_any k nd2 sv2 a b y _ HL.out w5 hE5 ha hbI).mono ?_
  rintro e w6 ⟨⟨k4, n4, q4, p4, l4, c4, rfl, iA⟩, hc6⟩
  replace iX := iX.below hc6
  have hb6 := hb5.trans (hc6.mono hb5.size)
  replace bE := bE.here hc6
  replace bX := bX.here hc6
  have hE6 := hE5.below hc6
  clear hE5
  have hH6 := hH5.below hc6
  clear hH5
  have hA6 := hA5.below hc6
  clear hA5
  clear hc6 hb5
  clear cE0 cE1 cE2 cE3 cE4 fE0 fE1 fE2 fE3 fE4 lE
  have hc7 : Below w6.heap.size w6 (w6.alloc (.cells #[.int .i64 k4, .int .i64 n4, .string q4, .slice p4 l4 c4] 26)) := (Below.refl _ _).alloc (Nat.le_refl _) _
  have bA : Blk (w6.alloc (.cells #[.int .i64 k4, .int .i64 n4, .string q4, .slice p4 l4 c4] 26)) w6.heap.size 26 #[.int .i64 k4, .int .i64 n4, .string q4, .slice p4 l4 c4] := Blk.new _ _ _
  replace iX := iX.below hc7
  replace iA := iA.below hc7
  have hb7 := hb6.trans (hc7.mono hb6.size)
  replace bE := bE.here hc7
  replace bX := bX.here hc7
  have hE7 := hE6.below hc7
  clear hE6
  have hH7 := hH6.below hc7
  clear hH6
  have hA7 := hA6.below hc7
  clear hA6
  clear hc7 hb6
  obtain ⟨cA0, cA1, cA2, cA3⟩ := bA.four
  have fA0 := bA.frozen 0
  have fA1 := bA.frozen 1
  have fA2 := bA.frozen 2
  have fA3 := bA.frozen 3
  have lA := bA.lt
  go_wp2_with fail
  generalize (w6.alloc (.cells #[.int .i64 k4, .int .i64 n4, .string q4, .slice p4 l4 c4] 26)) = w7 at *
  refine (Name_any _ y _ _ rfl w7 hE7 iA hys).mono ?_
  rintro e w8 ⟨rfl, hc8⟩
  replace iX := iX.below hc8
  replace iA := iA.below hc8
  have hb8 := hb7.trans (hc8.mono hb7.size)
  replace bE := bE.here hc8
  replace bX := bX.here hc8
  replace bA := bA.here hc8
  have hE8 := hE7.below hc8
  clear hE7
  have hH8 := hH7.below hc8
  clear hH7
  have hA8 := hA7.below hc8
  clear hA7
  clear hc8 hb7
  clear cA0 cA1 cA2 cA3 fA0 fA1 fA2 fA3 lA
  rw [HM.out, HM2.out]
  clear bA
  clear iA
  have hc9 : Below w8.heap.size w8 (w8.alloc (.cells #[.int .i64 0, .string ⟨#[]⟩, .string ⟨#[]⟩, .int .i64 0, .int .i64 0] 23)) := (Below.refl _ _).alloc (Nat.le_refl _) _
  have bN : Blk (w8.alloc (.cells #[.int .i64 0, .string ⟨#[]⟩, .string ⟨#[]⟩, .int .i64 0, .int .i64 0] 23)) w8.heap.size 23 #[.int .i64 0, .string ⟨#[]⟩, .string ⟨#[]⟩, .int .i64 0, .int .i64 0] := Blk.new _ _ _
  replace iX := iX.below hc9
  have hb9 := hb8.trans (hc9.mono hb8.size)
  replace bE := bE.here hc9
  replace bX := bX.here hc9
  have hE9 := hE8.below hc9
  clear hE8
  have hH9 := hH8.below hc9
  clear hH8
  have hA9 := hA8.below hc9
  clear hA8
  clear hc9 hb8
  obtain ⟨cE0, cE1, cE2, cE3, cE4⟩ := bE.five
  have fE0 := bE.frozen 0
  have fE1 := bE.frozen 1
  have fE2 := bE.frozen 2
  have fE3 := bE.frozen 3
  have fE4 := bE.frozen 4
  have lE := bE.lt
  go_wp2_with fail
  generalize (w8.alloc (.cells #[.int .i64 0, .string ⟨#[]⟩, .string ⟨#[]⟩, .int .i64 0, .int .i64 0] 23)) = w9 at *
  refine (Encode_any k nd2 sv2 a b w9 hE9 hH9 hA9 ha hbI).mono ?_
  rintro e w10 ⟨rfl, hc10⟩
  replace iX := iX.below hc10
  have hb10 := hb9.trans (hc10.mono hb9.size)
  replace bE := bE.here hc10
  replace bX := bX.here hc10
  replace bN := bN.here hc10
  have hE10 := hE9.below hc10
  clear hE9
  have hH10 := hH9.below hc10
  clear hH9
  have hA10 := hA9.below hc10
  clear hA9
  clear hc10 hb9
  rw [HL2.out]
  clear cE0 cE1 cE2 cE3 cE4 fE0 fE1 fE2 fE3 fE4 lE
  go_wp2_with fail
  refine (Decode_any v (s2.size : Int) w10 hE10 hH10 hA10 hus).mono ?_
  rintro e w11 ⟨rfl, hc11⟩
  replace iX := iX.below hc11
  have hb11 := hb10.trans (hc11.mono hb10.size)
  replace bE := bE.here hc11
  replace bX := bX.here hc11
  replace bN := bN.here hc11
  have hE11 := hE10.below hc11
  clear hE10
  have hH11 := hH10.below hc11
  clear hH10
  have hA11 := hA10.below hc11
  clear hA10
  clear hc11 hb10
  rw [HD.out, HD1.out, HD2.out]
  have hc12 : Below w11.heap.size w11 (w11.alloc (.cells #[.int .i64 o9.k, .string ⟨o9.node.toArray⟩, .string ⟨o9.serv.toArray⟩, .int .i64 o9.a, .int .i64 o9.b] 23)) := (Below.refl _ _).alloc (Nat.le_refl _) _
  have bD : Blk (w11.alloc (.cells #[.int .i64 o9.k, .string ⟨o9.node.toArray⟩, .string ⟨o9.serv.toArray⟩, .int .i64 o9.a, .int .i64 o9.b] 23)) w11.heap.size 23 #[.int .i64 o9.k, .string ⟨o9.node.toArray⟩, .string ⟨o9.serv.toArray⟩, .int .i64 o9.a, .int .i64 o9.b] := Blk.new _ _ _
  replace iX := iX.below hc12
  have hb12 := hb11.trans (hc12.mono hb11.size)
  replace bE := bE.here hc12
  replace bX := bX.here hc12
  replace bN := bN.here hc12
  have hE12 := hE11.below hc12
  clear hE11
  have hH12 := hH11.below hc12
  clear hH11
  have hA12 := hA11.below hc12
  clear hA11
  clear hc12 hb11
  obtain ⟨cX0, cX1, cX2, cX3⟩ := bX.four
  have fX0 := bX.frozen 0
  have fX1 := bX.frozen 1
  have fX2 := bX.frozen 2
  have fX3 := bX.frozen 3
  have lX := bX.lt
  go_wp2_with fail
  generalize (w11.alloc (.cells #[.int .i64 o9.k, .string ⟨o9.node.toArray⟩, .string ⟨o9.serv.toArray⟩, .int .i64 o9.a, .int .i64 o9.b] 23)) = w12 at *
  refine (Name_any _ x _ _ rfl w12 hE12 iX hsm).mono ?_
  rintro e w13 ⟨rfl, hc13⟩
  replace iX := iX.below hc13
  have hb13 := hb12.trans (hc13.mono hb12.size)
  replace bE := bE.here hc13
  replace bX := bX.here hc13
  replace bN := bN.here hc13
  replace bD := bD.here hc13
  have hE13 := hE12.below hc13
  clear hE12
  have hH13 := hH12.below hc13
  clear hH12
  have hA13 := hA12.below hc13
  clear hA12
  clear hc13 hb12
  clear cX0 cX1 cX2 cX3 fX0 fX1 fX2 fX3 lX
  rw [HQ.out, HQ2.out]
  clear bN
  clear bD
  have hc14 : Below w13.heap.size w13 (w13.alloc (.cells #[.int .i64 o.k, .string ⟨o.node.toArray⟩, .string ⟨o.serv.toArray⟩, .int .i64 o.a, .int .i64 o.b] 23)) := (Below.refl _ _).alloc (Nat.le_refl _) _
  have bC : Blk (w13.alloc (.cells #[.int .i64 o.k, .string ⟨o.node.toArray⟩, .string ⟨o.serv.toArray⟩, .int .i64 o.a, .int .i64 o.b] 23)) w13.heap.size 23 #[.int .i64 o.k, .string ⟨o.node.toArray⟩, .string ⟨o.serv.toArray⟩, .int .i64 o.a, .int .i64 o.b] := Blk.new _ _ _
  replace iX := iX.below hc14
  have hb14 := hb13.trans (hc14.mono hb13.size)
  replace bE := bE.here hc14
  replace bX := bX.here hc14
  have hE14 := hE13.below hc14
  clear hE13
  have hH14 := hH13.below hc14
  clear hH13
  have hA14 := hA13.below hc14
  clear hA13
  clear hc14 hb13
  obtain ⟨cC0, cC1, cC2, cC3, cC4⟩ := bC.five
  have fC0 := bC.frozen 0
  have fC1 := bC.frozen 1
  have fC2 := bC.frozen 2
  have fC3 := bC.frozen 3
  have fC4 := bC.frozen 4
  have lC := bC.lt
  go_wp2_with fail
  generalize (w13.alloc (.cells #[.int .i64 o.k, .string ⟨o.node.toArray⟩, .string ⟨o.serv.toArray⟩, .int .i64 o.a, .int .i64 o.b] 23)) = w14 at *
  refine (Item_any o.k ⟨o.node.toArray⟩ ⟨o.serv.toArray⟩ o.a o.b x 0 HL3.out w14 hE14 oa ob).mono ?_
  rintro e w15 ⟨⟨k5, n5, q5, p5, l5, c5, rfl, iZ⟩, hc15⟩
  replace iX := iX.below hc15
  have hb15 := hb14.trans (hc15.mono hb14.size)
  replace bE := bE.here hc15
  replace bX := bX.here hc15
  replace bC := bC.here hc15
  have hE15 := hE14.below hc15
  clear hE14
  have hH15 := hH14.below hc15
  clear hH14
  have hA15 := hA14.below hc15
  clear hA14
  clear hc15 hb14
  clear cC0 cC1 cC2 cC3 cC4 fC0 fC1 fC2 fC3 fC4 lC
  have hc16 : Below w15.heap.size w15 (w15.alloc (.cells #[.int .i64 k5, .int .i64 n5, .string q5, .slice p5 l5 c5] 26)) := (Below.refl _ _).alloc (Nat.le_refl _) _
  have bZ : Blk (w15.alloc (.cells #[.int .i64 k5, .int .i64 n5, .string q5, .slice p5 l5 c5] 26)) w15.heap.size 26 #[.int .i64 k5, .int .i64 n5, .string q5, .slice p5 l5 c5] := Blk.new _ _ _
  replace iX := iX.below hc16
  replace iZ := iZ.below hc16
  have hb16 := hb15.trans (hc16.mono hb15.size)
  replace bE := bE.here hc16
  replace bX := bX.here hc16
  replace bC := bC.here hc16
  have hE16 := hE15.below hc16
  clear hE15
  have hH16 := hH15.below hc16
  clear hH15
  have hA16 := hA15.below hc16
  clear hA15
  clear hc16 hb15
  obtain ⟨cE0, cE1, cE2, cE3, cE4⟩ := bE.five
  have fE0 := bE.frozen 0
  have fE1 := bE.frozen 1
  have fE2 := bE.frozen 2
  have fE3 := bE.frozen 3
  have fE4 := bE.frozen 4
  have lE := bE.lt
  go_wp2_with fail
  generalize (w15.alloc (.cells #[.int .i64 k5, .int .i64 n5, .string q5, .slice p5 l5 c5] 26)) = w16 at *
  refine (eright_any k nd2 sv2 a b w16 hE16 ha hbI).mono ?_
  rintro e w17 ⟨rfl, hc17⟩
  replace iX := iX.below hc17
  replace iZ := iZ.below hc17
  have hb17 := hb16.trans (hc17.mono hb16.size)
  replace bE := bE.here hc17
  replace bX := bX.here hc17
  replace bC := bC.here hc17
  replace bZ := bZ.here hc17
  have hE17 := hE16.below hc17
  clear hE16
  have hH17 := hH16.below hc17
  clear hH16
  have hA17 := hA16.below hc17
  clear hA16
  clear hc17 hb16
  clear cE0 cE1 cE2 cE3 cE4 fE0 fE1 fE2 fE3 fE4 lE
  rw [HR.out]
  obtain ⟨cZ0, cZ1, cZ2, cZ3⟩ := bZ.four
  have fZ0 := bZ.frozen 0
  have fZ1 := bZ.frozen 1
  have fZ2 := bZ.frozen 2
  have fZ3 := bZ.frozen 3
  have lZ := bZ.lt
  obtain ⟨cX0, cX1, cX2, cX3⟩ := bX.four
  have fX0 := bX.frozen 0
  have fX1 := bX.frozen 1
  have fX2 := bX.frozen 2
  have fX3 := bX.frozen 3
  have lX := bX.lt
  go_wp2_with fail
  refine (same_any _ _ (dep x) x x _ _ w17 (Nat.le_refl _) iZ iX).mono ?_
  rintro e w18 ⟨rfl, hc18⟩
  replace iX := iX.below hc18
  replace iZ := iZ.below hc18
  have hb18 := hb17.trans (hc18.mono hb17.size)
  replace bE := bE.here hc18
  replace bX := bX.here hc18
  replace bC := bC.here hc18
  replace bZ := bZ.here hc18
  have hE18 := hE17.below hc18
  clear hE17
  have hH18 := hH17.below hc18
  clear hH17
  have hA18 := hA17.below hc18
  clear hA17
  clear hc18 hb17
  clear cX0 cX1 cX2 cX3 fX0 fX1 fX2 fX3 lX
  clear cZ0 cZ1 cZ2 cZ3 fZ0 fZ1 fZ2 fZ3 lZ
  rw [sameB_self]
  go_wp2_with fail
  go_ret
  exact ⟨rfl, hb18⟩

set_option maxRecDepth 100000 in
set_option maxHeartbeats 4000000 in
theorem back_ofJ10 (k : Int) (nd sv nd2 sv2 : ByteArray) (a b : Int) (kx nx : Int) (qx : ByteArray) (px : Option Addr) (lx cx : Nat) (x : Itm) (s t s2 t2 u v : ByteArray) (y y0 : Itm) (o o9 : Nm) (d i : Int) (w : World) (hE : EnvN w) (hH : HeadOK w) (hA : EnvE w) (ha : I64 a) (hbI : I64 b) (hn : nd.size ≤ maxLen) (hs9 : sv.size ≤ maxLen) (hc1 : c21 nd = nd2) (hc2 : c21 sv = sv2) (hn2 : nd2.size ≤ 4000000000) (hv2 : sv2.size ≤ 4000000000) (hCx : ∀ W, Below w.heap.size w W → Calls Tryz.prog 10 #[.agg #[.int .i64 kx, .int .i64 nx, .string qx, .slice px lx cx]] W (CutR x W)) (hsm : (prt x 1).s.length ≤ 4000000000) (hs : s.size ≤ maxLen) (ht : t.size ≤ maxLen) (hc3 : c300 s = s2) (hc4 : c300 t = t2) (hR : nmR (nmO k nd2 sv2 a b) = true) (hl : layI (nmO k nd2 sv2 a b) = (y, 0)) (hm : nmX (nmI y) = .agg #[.int .i64 k, .string nd2, .string sv2, .int .i64 a, .int .i64 b]) (hm2 : erX (nmI y) = 0) (hl2 : encN (nmO k nd2 sv2 a b) = (u, 0)) (hd : nmW (decN v (s2.size : Int)).1 = .agg #[.int .i64 k, .string nd2, .string sv2, .int .i64 a, .int .i64 b]) (hd1 : (decN v (s2.size : Int)).2.1 = d) (hd2 : (decN v (s2.size : Int)).2.2 = i) (hu : s2 ++ u ++ t2 = v) (hus : v.size ≤ 1000000) (hys : (prt y 1).s.length ≤ 4000000000) (hi : i = 0) (hdd : d = (s2.size : Int) + (u.size : Int)) (hq : nmX (nmI x) = .agg #[.int .i64 0, .string ⟨#[]⟩, .string ⟨#[]⟩, .int .i64 0, .int .i64 0]) (hq2 : erX (nmI x) = 60) (hl3 : layI (nmO 0 ⟨#[]⟩ ⟨#[]⟩ 0 0) = (y0, 0)) (hz1 : s2.size ≤ 300) (hz2 : u.size ≤ 36540) (hz3 : t2.size ≤ 300) :
    Calls Tryz.prog 5 #[.agg #[.int .i64 k, .string nd, .string sv, .int .i64 a, .int .i64 b], .agg #[.int .i64 kx, .int .i64 nx, .string qx, .slice px lx cx], .string s, .string t] w fun e w' => e = .returned (.bool true) ∧ Below w.heap.size w w' := by
  subst hi
  subst hdd
  have HC1 := Lib.hid hc1
  clear hc1
  have HC2 := Lib.hid hc2
  clear hc2
  have HC3 := Lib.hid hc3
  clear hc3
  have HC4 := Lib.hid hc4
  clear hc4
  have HCX := Lib.hid hCx
  clear hCx
  have HR := Lib.hid hR
  clear hR
  have HL := Lib.hid hl
  clear hl
  have HM := Lib.hid hm
  clear hm
  have HM2 := Lib.hid hm2
  clear hm2
  have HL2 := Lib.hid hl2
  clear hl2
  have HD := Lib.hid hd
  clear hd
  have HD1 := Lib.hid hd1
  clear hd1
  have HD2 := Lib.hid hd2
  clear hd2
  have HQ := Lib.hid hq
  clear hq
  have HQ2 := Lib.hid hq2
  clear hq2
  have HL3 := Lib.hid hl3
  clear hl3
  have e1 : ∀ W : World, (binOp .neq 23 (.agg #[.int .i64 k, .string nd2, .string sv2, .int .i64 a, .int .i64 b]) (.agg #[.int .i64 k, .string nd2, .string sv2, .int .i64 a, .int .i64 b])).run Tryz.prog W = .ok (.bool false) W := nm_selfn _ _ _ _ _ _ rfl
  have e2 : ∀ W : World, (binOp .eql 23 (.agg #[.int .i64 0, .string ⟨#[]⟩, .string ⟨#[]⟩, .int .i64 0, .int .i64 0]) (.agg #[.int .i64 0, .string ⟨#[]⟩, .string ⟨#[]⟩, .int .i64 0, .int .i64 0])).run Tryz.prog W = .ok (.bool true) W := nm_self _ _ _ _ _ _ rfl
  have o0 : I64 (0 : Int) := by unfold I64; decide
  have bX_ := Blk.new (w.alloc (.cells #[.int .i64 k, .string nd, .string sv, .int .i64 a, .int .i64 b] 23)) 26 #[.int .i64 kx, .int .i64 nx, .string qx, .slice px lx cx]
  simp only [World.size_alloc] at bX_
  have bE : Blk ((w.alloc (.cells #[.int .i64 k, .string nd, .string sv, .int .i64 a, .int .i64 b] 23)).alloc (.cells #[.int .i64 kx, .int .i64 nx, .string qx, .slice px lx cx] 26)) (w.heap.size) 23 #[.int .i64 k, .string nd, .string sv, .int .i64 a, .int .i64 b] := (Blk.new w _ _).alloc _
  have bX : Blk ((w.alloc (.cells #[.int .i64 k, .string nd, .string sv, .int .i64 a, .int .i64 b] 23)).alloc (.cells #[.int .i64 kx, .int .i64 nx, .string qx, .slice px lx cx] 26)) (w.heap.size + 1) 26 #[.int .i64 kx, .int .i64 nx, .string qx, .slice px lx cx] := bX_
  have hb : Below w.heap.size w ((w.alloc (.cells #[.int .i64 k, .string nd, .string sv, .int .i64 a, .int .i64 b] 23)).alloc (.cells #[.int .i64 kx, .int .i64 nx, .string qx, .slice px lx cx] 26)) := (((Below.refl _ w).alloc (Nat.le_refl _) _).alloc (by simp; try omega) _)
  have hE0 := hE.below hb
  have hH0 := hH.below hb
  have hA0 := hA.below hb
  clear bX_
  go_enter Tryz.func5, Tryz.ntmps5
  go_wp2_with fail
  generalize ((w.alloc (.cells #[.int .i64 k, .string nd, .string sv, .int .i64 a, .int .i64 b] 23)).alloc (.cells #[.int .i64 kx, .int .i64 nx, .string qx, .slice px lx cx] 26)) = w0 at *
  refine (shown_anyJ w0 hE0 hH0 hA0).mono ?_
  rintro e w1 ⟨rfl, hc1⟩
  have hb1 := hb.trans (hc1.mono hb.size)
  replace bE := bE.here hc1
  replace bX := bX.here hc1
  have hE1 := hE0.below hc1
  clear hE0
  have hH1 := hH0.below hc1
  clear hH0
  have hA1 := hA0.below hc1
  clear hA0
  clear hc1 hb
  obtain ⟨cE0, cE1, cE2, cE3, cE4⟩ := bE.five
  have fE0 := bE.frozen 0
  have fE1 := bE.frozen 1
  have fE2 := bE.frozen 2
  have fE3 := bE.frozen 3
  have fE4 := bE.frozen 4
  have lE := bE.lt
  go_wp2_with fail
  refine (lCut_any k nd sv a b w1 hn hs9).mono ?_
  rintro e w2 ⟨rfl, hc2⟩
  have hb2 := hb1.trans (hc2.mono hb1.size)
  replace bE := bE.here hc2
  replace bX := bX.here hc2
  have hE2 := hE1.below hc2
  clear hE1
  have hH2 := hH1.below hc2
  clear hH1
  have hA2 := hA1.below hc2
  clear hA1
  clear hc2 hb1
  rw [HC1.out, HC2.out]
  unfold nmV
  clear cE0 cE1 cE2 cE3 cE4 fE0 fE1 fE2 fE3 fE4 lE
  obtain ⟨cE0, cE1, cE2, cE3, cE4⟩ := bE.five
  have fE0 := bE.frozen 0
  have fE1 := bE.frozen 1
  have fE2 := bE.frozen 2
  have fE3 := bE.frozen 3
  have fE4 := bE.frozen 4
  have lE := bE.lt
  obtain ⟨cX0, cX1, cX2, cX3⟩ := bX.four
  have fX0 := bX.frozen 0
  have fX1 := bX.frozen 1
  have fX2 := bX.frozen 2
  have fX3 := bX.frozen 3
  have lX := bX.lt
  go_wp2_with fail
  clear cE0 cE1 cE2 cE3 cE4 fE0 fE1 fE2 fE3 fE4 lE
  clear cX0 cX1 cX2 cX3 fX0 fX1 fX2 fX3 lX
  have hb3 : Below w.heap.size w (((((w2.setCell ⟨w.heap.size, 0, none⟩ (.int .i64 k)).setCell ⟨w.heap.size, 1, none⟩ (.string nd2)).setCell ⟨w.heap.size, 2, none⟩ (.string sv2)).setCell ⟨w.heap.size, 3, none⟩ (.int .i64 a)).setCell ⟨w.heap.size, 4, none⟩ (.int .i64 b)) := (below_sets5 (B := w.heap.size) hb2 (by have := hb2.size; omega) _ _ _ _ _)
  have bE_ : Blk (((((w2.setCell ⟨w.heap.size, 0, none⟩ (.int .i64 k)).setCell ⟨w.heap.size, 1, none⟩ (.string nd2)).setCell ⟨w.heap.size, 2, none⟩ (.string sv2)).setCell ⟨w.heap.size, 3, none⟩ (.int .i64 a)).setCell ⟨w.heap.size, 4, none⟩ (.int .i64 b)) (w.heap.size) 23 #[.int .i64 k, .string nd2, .string sv2, .int .i64 a, .int .i64 b] := (bE.set5 _ _ _ _ _)
  have bX_ : Blk (((((w2.setCell ⟨w.heap.size, 0, none⟩ (.int .i64 k)).setCell ⟨w.heap.size, 1, none⟩ (.string nd2)).setCell ⟨w.heap.size, 2, none⟩ (.string sv2)).setCell ⟨w.heap.size, 3, none⟩ (.int .i64 a)).setCell ⟨w.heap.size, 4, none⟩ (.int .i64 b)) (w.heap.size + 1) 26 #[.int .i64 kx, .int .i64 nx, .string qx, .slice px lx cx] := (Blk.sets5 (by omega) bX _ _ _ _ _)
  clear bE bX
  have bE := bE_
  clear bE_
  have bX := bX_
  clear bX_
  have hE3 := hE.below hb3
  clear hE2
  have hH3 := hH.below hb3
  clear hH2
  have hA3 := hA.below hb3
  clear hA2
  clear hb2
  generalize (((((w2.setCell ⟨w.heap.size, 0, none⟩ (.int .i64 k)).setCell ⟨w.heap.size, 1, none⟩ (.string nd2)).setCell ⟨w.heap.size, 2, none⟩ (.string sv2)).setCell ⟨w.heap.size, 3, none⟩ (.int .i64 a)).setCell ⟨w.heap.size, 4, none⟩ (.int .i64 b)) = w3 at *
  obtain ⟨cX0, cX1, cX2, cX3⟩ := bX.four
  have fX0 := bX.frozen 0
  have fX1 := bX.frozen 1
  have fX2 := bX.frozen 2
  have fX3 := bX.frozen 3
  have lX := bX.lt
  refine (HCX.out w3 hb3).mono ?_
  rintro e w4 ⟨k3, n3, q3, p3, l3, c3, rfl, iX, hc4⟩
  have hb4 := hb3.trans (hc4.mono hb3.size)
  replace bE := bE.here hc4
  replace bX := bX.here hc4
  have hE4 := hE3.below hc4
  clear hE3
  have hH4 := hH3.below hc4
  clear hH3
  have hA4 := hA3.below hc4
  clear hA3
  replace iX := iX.mono (ok' := fun b => w.heap.size + 2 ≤ b) (fun b _ hb => by have h2 : w3.heap.size ≤ b := hb; omega)
  clear hc4 hb3
  clear cX0 cX1 cX2 cX3 fX0 fX1 fX2 fX3 lX
  obtain ⟨cX0, cX1, cX2, cX3⟩ := bX.four
  have fX0 := bX.frozen 0
  have fX1 := bX.frozen 1
  have fX2 := bX.frozen 2
  have fX3 := bX.frozen 3
  have lX := bX.lt
  obtain ⟨cE0, cE1, cE2, cE3, cE4⟩ := bE.five
  have fE0 := bE.frozen 0
  have fE1 := bE.frozen 1
  have fE2 := bE.frozen 2
  have fE3 := bE.frozen 3
  have fE4 := bE.frozen 4
  have lE := bE.lt
  go_wp2_with fail
  clear cE0 cE1 cE2 cE3 cE4 fE0 fE1 fE2 fE3 fE4 lE
  clear cX0 cX1 cX2 cX3 fX0 fX1 fX2 fX3 lX
  have hb5 : Below w.heap.size w ((((w4.setCell ⟨w.heap.size + 1, 0, none⟩ (.int .i64 k3)).setCell ⟨w.heap.size + 1, 1, none⟩ (.int .i64 n3)).setCell ⟨w.heap.size + 1, 2, none⟩ (.string q3)).setCell ⟨w.heap.size + 1, 3, none⟩ (.slice p3 l3 c3)) := (below_sets4 (B := w.heap.size + 1) hb4 (by have := hb4.size; omega) _ _ _ _)
  have bE_ : Blk ((((w4.setCell ⟨w.heap.size + 1, 0, none⟩ (.int .i64 k3)).setCell ⟨w.heap.size + 1, 1, none⟩ (.int .i64 n3)).setCell ⟨w.heap.size + 1, 2, none⟩ (.string q3)).setCell ⟨w.heap.size + 1, 3, none⟩ (.slice p3 l3 c3)) (w.heap.size) 23 #[.int .i64 k, .string nd2, .string sv2, .int .i64 a, .int .i64 b] := (Blk.sets4 (by omega) bE _ _ _ _)
  have bX_ : Blk ((((w4.setCell ⟨w.heap.size + 1, 0, none⟩ (.int .i64 k3)).setCell ⟨w.heap.size + 1, 1, none⟩ (.int .i64 n3)).setCell ⟨w.heap.size + 1, 2, none⟩ (.string q3)).setCell ⟨w.heap.size + 1, 3, none⟩ (.slice p3 l3 c3)) (w.heap.size + 1) 26 #[.int .i64 k3, .int .i64 n3, .string q3, .slice p3 l3 c3] := (bX.set4 _ _ _ _)
  clear bE bX
  have bE := bE_
  clear bE_
  have bX := bX_
  clear bX_
  replace iX := ((((iX.setc (R := w.heap.size + 1) (by omega) 0 (.int .i64 k3)).setc (R := w.heap.size + 1) (by omega) 1 (.int .i64 n3)).setc (R := w.heap.size + 1) (by omega) 2 (.string q3)).setc (R := w.heap.size + 1) (by omega) 3 (.slice p3 l3 c3))
  have hE5 := hE.below hb5
  clear hE4
  have hH5 := hH.below hb5
  clear hH4
  have hA5 := hA.below hb5
  clear hA4
  clear hb4
  generalize ((((w4.setCell ⟨w.heap.size + 1, 0, none⟩ (.int .i64 k3)).setCell ⟨w.heap.size + 1, 1, none⟩ (.int .i64 n3)).setCell ⟨w.heap.size + 1, 2, none⟩ (.string q3)).setCell ⟨w.heap.size + 1, 3, none⟩ (.slice p3 l3 c3)) = w5 at *
  refine (lcut_anyJ s _ hs).mono ?_
  rintro e w' ⟨rfl, rfl⟩
  rw [HC3.out]
  go_wp2_with fail
  refine (lcut_anyJ t _ ht).mono ?_
  rintro e w' ⟨rfl, rfl⟩
  rw [HC4.out]
  obtain ⟨cE0, cE1, cE2, cE3, cE4⟩ := bE.five
  have fE0 := bE.frozen 0
  have fE1 := bE.frozen 1
  have fE2 := bE.frozen 2
  have fE3 := bE.frozen 3
  have fE4 := bE.frozen 4
  have lE := bE.lt
  go_wp2_with fail
  refine (Item_any k nd2 sv2 a b y _ HL.out w5 hE5 ha hbI).mono ?_
  rintro e w6 ⟨⟨k4, n4, q4, p4, l4, c4, rfl, iA⟩, hc6⟩
  replace iX := iX.below hc6
  have hb6 := hb5.trans (hc6.mono hb5.size)
  replace bE := bE.here hc6
  replace bX := bX.here hc6
  have hE6 := hE5.below hc6
  clear hE5
  have hH6 := hH5.below hc6
  clear hH5
  have hA6 := hA5.below hc6
  clear hA5
  clear hc6 hb5
  clear cE0 cE1 cE2 cE3 cE4 fE0 fE1 fE2 fE3 fE4 lE
  have hc7 : Below w6.heap.size w6 (w6.alloc (.cells #[.int .i64 k4, .int .i64 n4, .string q4, .slice p4 l4 c4] 26)) := (Below.refl _ _).alloc (Nat.le_refl _) _
  have bA : Blk (w6.alloc (.cells #[.int .i64 k4, .int .i64 n4, .string q4, .slice p4 l4 c4] 26)) w6.heap.size 26 #[.int .i64 k4, .int .i64 n4, .string q4, .slice p4 l4 c4] := Blk.new _ _ _
  replace iX := iX.below hc7
  replace iA := iA.below hc7
  have hb7 := hb6.trans (hc7.mono hb6.size)
  replace bE := bE.here hc7
  replace bX := bX.here hc7
  have hE7 := hE6.below hc7
  clear hE6
  have hH7 := hH6.below hc7
  clear hH6
  have hA7 := hA6.below hc7
  clear hA6
  clear hc7 hb6
  obtain ⟨cA0, cA1, cA2, cA3⟩ := bA.four
  have fA0 := bA.frozen 0
  have fA1 := bA.frozen 1
  have fA2 := bA.frozen 2
  have fA3 := bA.frozen 3
  have lA := bA.lt
  go_wp2_with fail
  generalize (w6.alloc (.cells #[.int .i64 k4, .int .i64 n4, .string q4, .slice p4 l4 c4] 26)) = w7 at *
  refine (Name_any _ y _ _ rfl w7 hE7 iA hys).mono ?_
  rintro e w8 ⟨rfl, hc8⟩
  replace iX := iX.below hc8
  replace iA := iA.below hc8
  have hb8 := hb7.trans (hc8.mono hb7.size)
  replace bE := bE.here hc8
  replace bX := bX.here hc8
  replace bA := bA.here hc8
  have hE8 := hE7.below hc8
  clear hE7
  have hH8 := hH7.below hc8
  clear hH7
  have hA8 := hA7.below hc8
  clear hA7
  clear hc8 hb7
  clear cA0 cA1 cA2 cA3 fA0 fA1 fA2 fA3 lA
  rw [HM.out, HM2.out]
  clear bA
  clear iA
  have hc9 : Below w8.heap.size w8 (w8.alloc (.cells #[.int .i64 k, .string nd2, .string sv2, .int .i64 a, .int .i64 b] 23)) := (Below.refl _ _).alloc (Nat.le_refl _) _
  have bN : Blk (w8.alloc (.cells #[.int .i64 k, .string nd2, .string sv2, .int .i64 a, .int .i64 b] 23)) w8.heap.size 23 #[.int .i64 k, .string nd2, .string sv2, .int .i64 a, .int .i64 b] := Blk.new _ _ _
  replace iX := iX.below hc9
  have hb9 := hb8.trans (hc9.mono hb8.size)
  replace bE := bE.here hc9
  replace bX := bX.here hc9
  have hE9 := hE8.below hc9
  clear hE8
  have hH9 := hH8.below hc9
  clear hH8
  have hA9 := hA8.below hc9
  clear hA8
  clear hc9 hb8
  obtain ⟨cE0, cE1, cE2, cE3, cE4⟩ := bE.five
  have fE0 := bE.frozen 0
  have fE1 := bE.frozen 1
  have fE2 := bE.frozen 2
  have fE3 := bE.frozen 3
  have fE4 := bE.frozen 4
  have lE := bE.lt
  go_wp2_with fail
  generalize (w8.alloc (.cells #[.int .i64 k, .string nd2, .string sv2, .int .i64 a, .int .i64 b] 23)) = w9 at *
  refine (Encode_any k nd2 sv2 a b w9 hE9 hH9 hA9 ha hbI).mono ?_
  rintro e w10 ⟨rfl, hc10⟩
  replace iX := iX.below hc10
  have hb10 := hb9.trans (hc10.mono hb9.size)
  replace bE := bE.here hc10
  replace bX := bX.here hc10
  replace bN := bN.here hc10
  have hE10 := hE9.below hc10
  clear hE9
  have hH10 := hH9.below hc10
  clear hH9
  have hA10 := hA9.below hc10
  clear hA9
  clear hc10 hb9
  rw [HL2.out]
  clear cE0 cE1 cE2 cE3 cE4 fE0 fE1 fE2 fE3 fE4 lE
  go_wp2_with fail
  refine (Decode_any v (s2.size : Int) w10 hE10 hH10 hA10 hus).mono ?_
  rintro e w11 ⟨rfl, hc11⟩
  replace iX := iX.below hc11
  have hb11 := hb10.trans (hc11.mono hb10.size)
  replace bE := bE.here hc11
  replace bX := bX.here hc11
  replace bN := bN.here hc11
  have hE11 := hE10.below hc11
  clear hE10
  have hH11 := hH10.below hc11
  clear hH10
  have hA11 := hA10.below hc11
  clear hA10
  clear hc11 hb10
  rw [HD.out, HD1.out, HD2.out]
  have hc12 : Below w11.heap.size w11 (w11.alloc (.cells #[.int .i64 k, .string nd2, .string sv2, .int .i64 a, .int .i64 b] 23)) := (Below.refl _ _).alloc (Nat.le_refl _) _
  have bD : Blk (w11.alloc (.cells #[.int .i64 k, .string nd2, .string sv2, .int .i64 a, .int .i64 b] 23)) w11.heap.size 23 #[.int .i64 k, .string nd2, .string sv2, .int .i64 a, .int .i64 b] := Blk.new _ _ _
  replace iX := iX.below hc12
  have hb12 := hb11.trans (hc12.mono hb11.size)
  replace bE := bE.here hc12
  replace bX := bX.here hc12
  replace bN := bN.here hc12
  have hE12 := hE11.below hc12
  clear hE11
  have hH12 := hH11.below hc12
  clear hH11
  have hA12 := hA11.below hc12
  clear hA11
  clear hc12 hb11
  obtain ⟨cX0, cX1, cX2, cX3⟩ := bX.four
  have fX0 := bX.frozen 0
  have fX1 := bX.frozen 1
  have fX2 := bX.frozen 2
  have fX3 := bX.frozen 3
  have lX := bX.lt
  obtain ⟨cE0, cE1, cE2, cE3, cE4⟩ := bE.five
  have fE0 := bE.frozen 0
  have fE1 := bE.frozen 1
  have fE2 := bE.frozen 2
  have fE3 := bE.frozen 3
  have fE4 := bE.frozen 4
  have lE := bE.lt
  obtain ⟨cN0, cN1, cN2, cN3, cN4⟩ := bN.five
  have fN0 := bN.frozen 0
  have fN1 := bN.frozen 1
  have fN2 := bN.frozen 2
  have fN3 := bN.frozen 3
  have fN4 := bN.frozen 4
  have lN := bN.lt
  obtain ⟨cD0, cD1, cD2, cD3, cD4⟩ := bD.five
  have fD0 := bD.frozen 0
  have fD1 := bD.frozen 1
  have fD2 := bD.frozen 2
  have fD3 := bD.frozen 3
  have fD4 := bD.frozen 4
  have lD := bD.lt
  go_wp2_with fail
  generalize (w11.alloc (.cells #[.int .i64 k, .string nd2, .string sv2, .int .i64 a, .int .i64 b] 23)) = w12 at *
  refine (Name_any _ x _ _ rfl w12 hE12 iX hsm).mono ?_
  rintro e w13 ⟨rfl, hc13⟩
  replace iX := iX.below hc13
  have hb13 := hb12.trans (hc13.mono hb12.size)
  replace bE := bE.here hc13
  replace bX := bX.here hc13
  replace bN := bN.here hc13
  replace bD := bD.here hc13
  have hE13 := hE12.below hc13
  clear hE12
  have hH13 := hH12.below hc13
  clear hH12
  have hA13 := hA12.below hc13
  clear hA12
  clear hc13 hb12
  clear cN0 cN1 cN2 cN3 cN4 fN0 fN1 fN2 fN3 fN4 lN
  clear cE0 cE1 cE2 cE3 cE4 fE0 fE1 fE2 fE3 fE4 lE
  clear cX0 cX1 cX2 cX3 fX0 fX1 fX2 fX3 lX
  clear cD0 cD1 cD2 cD3 cD4 fD0 fD1 fD2 fD3 fD4 lD
  rw [HQ.out, HQ2.out]
  clear bN
  clear bD
  have hc14 : Below w13.heap.size w13 (w13.alloc (.cells #[.int .i64 0, .string ⟨#[]⟩, .string ⟨#[]⟩, .int .i64 0, .int .i64 0] 23)) := (Below.refl _ _).alloc (Nat.le_refl _) _
  have bC : Blk (w13.alloc (.cells #[.int .i64 0, .string ⟨#[]⟩, .string ⟨#[]⟩, .int .i64 0, .int .i64 0] 23)) w13.heap.size 23 #[.int .i64 0, .string ⟨#[]⟩, .string ⟨#[]⟩, .int .i64 0, .int .i64 0] := Blk.new _ _ _
  replace iX := iX.below hc14
  have hb14 := hb13.trans (hc14.mono hb13.size)
  replace bE := bE.here hc14
  replace bX := bX.here hc14
  have hE14 := hE13.below hc14
  clear hE13
  have hH14 := hH13.below hc14
  clear hH13
  have hA14 := hA13.below hc14
  clear hA13
  clear hc14 hb13
  obtain ⟨cC0, cC1, cC2, cC3, cC4⟩ := bC.five
  have fC0 := bC.frozen 0
  have fC1 := bC.frozen 1
  have fC2 := bC.frozen 2
  have fC3 := bC.frozen 3
  have fC4 := bC.frozen 4
  have lC := bC.lt
  go_wp2_with fail
  generalize (w13.alloc (.cells #[.int .i64 0, .string ⟨#[]⟩, .string ⟨#[]⟩, .int .i64 0, .int .i64 0] 23)) = w14 at *
  refine (Item_any 0 ⟨#[]⟩ ⟨#[]⟩ 0 0 y0 0 HL3.out w14 hE14 o0 o0).mono ?_
  rintro e w15 ⟨⟨k5, n5, q5, p5, l5, c5, rfl, iZ⟩, hc15⟩
  replace iX := iX.below hc15
  have hb15 := hb14.trans (hc15.mono hb14.size)
  replace bE := bE.here hc15
  replace bX := bX.here hc15
  replace bC := bC.here hc15
  have hE15 := hE14.below hc15
  clear hE14
  have hH15 := hH14.below hc15
  clear hH14
  have hA15 := hA14.below hc15
  clear hA14
  clear hc15 hb14
  clear cC0 cC1 cC2 cC3 cC4 fC0 fC1 fC2 fC3 fC4 lC
  have hc16 : Below w15.heap.size w15 (w15.alloc (.cells #[.int .i64 k5, .int .i64 n5, .string q5, .slice p5 l5 c5] 26)) := (Below.refl _ _).alloc (Nat.le_refl _) _
  have bZ : Blk (w15.alloc (.cells #[.int .i64 k5, .int .i64 n5, .string q5, .slice p5 l5 c5] 26)) w15.heap.size 26 #[.int .i64 k5, .int .i64 n5, .string q5, .slice p5 l5 c5] := Blk.new _ _ _
  replace iX := iX.below hc16
  replace iZ := iZ.below hc16
  have hb16 := hb15.trans (hc16.mono hb15.size)
  replace bE := bE.here hc16
  replace bX := bX.here hc16
  replace bC := bC.here hc16
  have hE16 := hE15.below hc16
  clear hE15
  have hH16 := hH15.below hc16
  clear hH15
  have hA16 := hA15.below hc16
  clear hA15
  clear hc16 hb15
  obtain ⟨cE0, cE1, cE2, cE3, cE4⟩ := bE.five
  have fE0 := bE.frozen 0
  have fE1 := bE.frozen 1
  have fE2 := bE.frozen 2
  have fE3 := bE.frozen 3
  have fE4 := bE.frozen 4
  have lE := bE.lt
  go_wp2_with fail
  generalize (w15.alloc (.cells #[.int .i64 k5, .int .i64 n5, .string q5, .slice p5 l5 c5] 26)) = w16 at *
  refine (eright_any k nd2 sv2 a b w16 hE16 ha hbI).mono ?_
  rintro e w17 ⟨rfl, hc17⟩
  replace iX := iX.below hc17
  replace iZ := iZ.below hc17
  have hb17 := hb16.trans (hc17.mono hb16.size)
  replace bE := bE.here hc17
  replace bX := bX.here hc17
  replace bC := bC.here hc17
  replace bZ := bZ.here hc17
  have hE17 := hE16.below hc17
  clear hE16
  have hH17 := hH16.below hc17
  clear hH16
  have hA17 := hA16.below hc17
  clear hA16
  clear hc17 hb16
  clear cE0 cE1 cE2 cE3 cE4 fE0 fE1 fE2 fE3 fE4 lE
  rw [HR.out]
  obtain ⟨cC0, cC1, cC2, cC3, cC4⟩ := bC.five
  have fC0 := bC.frozen 0
  have fC1 := bC.frozen 1
  have fC2 := bC.frozen 2
  have fC3 := bC.frozen 3
  have fC4 := bC.frozen 4
  have lC := bC.lt
  go_wp2_with fail
  go_ret
  exact ⟨rfl, hb17⟩

set_option maxRecDepth 100000 in
set_option maxHeartbeats 4000000 in
theorem back_ofJ11 (k : Int) (nd sv nd2 sv2 : ByteArray) (a b : Int) (kx nx : Int) (qx : ByteArray) (px : Option Addr) (lx cx : Nat) (x : Itm) (s t s2 t2 u v : ByteArray) (y y0 : Itm) (o o9 : Nm) (d i : Int) (w : World) (hE : EnvN w) (hH : HeadOK w) (hA : EnvE w) (ha : I64 a) (hbI : I64 b) (hn : nd.size ≤ maxLen) (hs9 : sv.size ≤ maxLen) (hc1 : c21 nd = nd2) (hc2 : c21 sv = sv2) (hn2 : nd2.size ≤ 4000000000) (hv2 : sv2.size ≤ 4000000000) (hCx : ∀ W, Below w.heap.size w W → Calls Tryz.prog 10 #[.agg #[.int .i64 kx, .int .i64 nx, .string qx, .slice px lx cx]] W (CutR x W)) (hsm : (prt x 1).s.length ≤ 4000000000) (hs : s.size ≤ maxLen) (ht : t.size ≤ maxLen) (hc3 : c300 s = s2) (hc4 : c300 t = t2) (hR : nmR (nmO k nd2 sv2 a b) = true) (hl : layI (nmO k nd2 sv2 a b) = (y, 0)) (hm : nmX (nmI y) = .agg #[.int .i64 k, .string nd2, .string sv2, .int .i64 a, .int .i64 b]) (hm2 : erX (nmI y) = 0) (hl2 : encN (nmO k nd2 sv2 a b) = (u, 0)) (hd : nmW (decN v (s2.size : Int)).1 = .agg #[.int .i64 k, .string nd2, .string sv2, .int .i64 a, .int .i64 b]) (hd1 : (decN v (s2.size : Int)).2.1 = d) (hd2 : (decN v (s2.size : Int)).2.2 = i) (hu : s2 ++ u ++ t2 = v) (hus : v.size ≤ 1000000) (hys : (prt y 1).s.length ≤ 4000000000) (hi : i = 0) (hdd : d = (s2.size : Int) + (u.size : Int)) (hq : nmX (nmI x) = .agg #[.int .i64 o.k, .string ⟨o.node.toArray⟩, .string ⟨o.serv.toArray⟩, .int .i64 o.a, .int .i64 o.b]) (hq2 : erX (nmI x) = 0) (hl3 : layI (nmO o.k ⟨o.node.toArray⟩ ⟨o.serv.toArray⟩ o.a o.b) = (x, 0)) (oa : I64 o.a) (ob : I64 o.b) (hz1 : s2.size ≤ 300) (hz2 : u.size ≤ 36540) (hz3 : t2.size ≤ 300) :
    Calls Tryz.prog 5 #[.agg #[.int .i64 k, .string nd, .string sv, .int .i64 a, .int .i64 b], .agg #[.int .i64 kx, .int .i64 nx, .string qx, .slice px lx cx], .string s, .string t] w fun e w' => e = .returned (.bool true) ∧ Below w.heap.size w w' := by
  subst hi
  subst hdd
  have HC1 := Lib.hid hc1
  clear hc1
  have HC2 := Lib.hid hc2
  clear hc2
  have HC3 := Lib.hid hc3
  clear hc3
  have HC4 := Lib.hid hc4
  clear hc4
  have HCX := Lib.hid hCx
  clear hCx
  have HR := Lib.hid hR
  clear hR
  have HL := Lib.hid hl
  clear hl
  have HM := Lib.hid hm
  clear hm
  have HM2 := Lib.hid hm2
  clear hm2
  have HL2 := Lib.hid hl2
  clear hl2
  have HD := Lib.hid hd
  clear hd
  have HD1 := Lib.hid hd1
  clear hd1
  have HD2 := Lib.hid hd2
  clear hd2
  have HQ := Lib.hid hq
  clear hq
  have HQ2 := Lib.hid hq2
  clear hq2
  have HL3 := Lib.hid hl3
  clear hl3
  have e1 : ∀ W : World, (binOp .neq 23 (.agg #[.int .i64 k, .string nd2, .string sv2, .int .i64 a, .int .i64 b]) (.agg #[.int .i64 k, .string nd2, .string sv2, .int .i64 a, .int .i64 b])).run Tryz.prog W = .ok (.bool false) W := nm_selfn _ _ _ _ _ _ rfl
  have bX_ := Blk.new (w.alloc (.cells #[.int .i64 k, .string nd, .string sv, .int .i64 a, .int .i64 b] 23)) 26 #[.int .i64 kx, .int .i64 nx, .string qx, .slice px lx cx]
  simp only [World.size_alloc] at bX_
  have bE : Blk ((w.alloc (.cells #[.int .i64 k, .string nd, .string sv, .int .i64 a, .int .i64 b] 23)).alloc (.cells #[.int .i64 kx, .int .i64 nx, .string qx, .slice px lx cx] 26)) (w.heap.size) 23 #[.int .i64 k, .string nd, .string sv, .int .i64 a, .int .i64 b] := (Blk.new w _ _).alloc _
  have bX : Blk ((w.alloc (.cells #[.int .i64 k, .string nd, .string sv, .int .i64 a, .int .i64 b] 23)).alloc (.cells #[.int .i64 kx, .int .i64 nx, .string qx, .slice px lx cx] 26)) (w.heap.size + 1) 26 #[.int .i64 kx, .int .i64 nx, .string qx, .slice px lx cx] := bX_
  have hb : Below w.heap.size w ((w.alloc (.cells #[.int .i64 k, .string nd, .string sv, .int .i64 a, .int .i64 b] 23)).alloc (.cells #[.int .i64 kx, .int .i64 nx, .string qx, .slice px lx cx] 26)) := (((Below.refl _ w).alloc (Nat.le_refl _) _).alloc (by simp; try omega) _)
  have hE0 := hE.below hb
  have hH0 := hH.below hb
  have hA0 := hA.below hb
  clear bX_
  go_enter Tryz.func5, Tryz.ntmps5
  go_wp2_with fail
  generalize ((w.alloc (.cells #[.int .i64 k, .string nd, .string sv, .int .i64 a, .int .i64 b] 23)).alloc (.cells #[.int .i64 kx, .int .i64 nx, .string qx, .slice px lx cx] 26)) = w0 at *
  refine (shown_anyJ w0 hE0 hH0 hA0).mono ?_
  rintro e w1 ⟨rfl, hc1⟩
  have hb1 := hb.trans (hc1.mono hb.size)
  replace bE := bE.here hc1
  replace bX := bX.here hc1
  have hE1 := hE0.below hc1
  clear hE0
  have hH1 := hH0.below hc1
  clear hH0
  have hA1 := hA0.below hc1
  clear hA0
  clear hc1 hb
  obtain ⟨cE0, cE1, cE2, cE3, cE4⟩ := bE.five
  have fE0 := bE.frozen 0
  have fE1 := bE.frozen 1
  have fE2 := bE.frozen 2
  have fE3 := bE.frozen 3
  have fE4 := bE.frozen 4
  have lE := bE.lt
  go_wp2_with fail
  refine (lCut_any k nd sv a b w1 hn hs9).mono ?_
  rintro e w2 ⟨rfl, hc2⟩
  have hb2 := hb1.trans (hc2.mono hb1.size)
  replace bE := bE.here hc2
  replace bX := bX.here hc2
  have hE2 := hE1.below hc2
  clear hE1
  have hH2 := hH1.below hc2
  clear hH1
  have hA2 := hA1.below hc2
  clear hA1
  clear hc2 hb1
  rw [HC1.out, HC2.out]
  unfold nmV
  clear cE0 cE1 cE2 cE3 cE4 fE0 fE1 fE2 fE3 fE4 lE
  obtain ⟨cE0, cE1, cE2, cE3, cE4⟩ := bE.five
  have fE0 := bE.frozen 0
  have fE1 := bE.frozen 1
  have fE2 := bE.frozen 2
  have fE3 := bE.frozen 3
  have fE4 := bE.frozen 4
  have lE := bE.lt
  obtain ⟨cX0, cX1, cX2, cX3⟩ := bX.four
  have fX0 := bX.frozen 0
  have fX1 := bX.frozen 1
  have fX2 := bX.frozen 2
  have fX3 := bX.frozen 3
  have lX := bX.lt
  go_wp2_with fail
  clear cE0 cE1 cE2 cE3 cE4 fE0 fE1 fE2 fE3 fE4 lE
  clear cX0 cX1 cX2 cX3 fX0 fX1 fX2 fX3 lX
  have hb3 : Below w.heap.size w (((((w2.setCell ⟨w.heap.size, 0, none⟩ (.int .i64 k)).setCell ⟨w.heap.size, 1, none⟩ (.string nd2)).setCell ⟨w.heap.size, 2, none⟩ (.string sv2)).setCell ⟨w.heap.size, 3, none⟩ (.int .i64 a)).setCell ⟨w.heap.size, 4, none⟩ (.int .i64 b)) := (below_sets5 (B := w.heap.size) hb2 (by have := hb2.size; omega) _ _ _ _ _)
  have bE_ : Blk (((((w2.setCell ⟨w.heap.size, 0, none⟩ (.int .i64 k)).setCell ⟨w.heap.size, 1, none⟩ (.string nd2)).setCell ⟨w.heap.size, 2, none⟩ (.string sv2)).setCell ⟨w.heap.size, 3, none⟩ (.int .i64 a)).setCell ⟨w.heap.size, 4, none⟩ (.int .i64 b)) (w.heap.size) 23 #[.int .i64 k, .string nd2, .string sv2, .int .i64 a, .int .i64 b] := (bE.set5 _ _ _ _ _)
  have bX_ : Blk (((((w2.setCell ⟨w.heap.size, 0, none⟩ (.int .i64 k)).setCell ⟨w.heap.size, 1, none⟩ (.string nd2)).setCell ⟨w.heap.size, 2, none⟩ (.string sv2)).setCell ⟨w.heap.size, 3, none⟩ (.int .i64 a)).setCell ⟨w.heap.size, 4, none⟩ (.int .i64 b)) (w.heap.size + 1) 26 #[.int .i64 kx, .int .i64 nx, .string qx, .slice px lx cx] := (Blk.sets5 (by omega) bX _ _ _ _ _)
  clear bE bX
  have bE := bE_
  clear bE_
  have bX := bX_
  clear bX_
  have hE3 := hE.below hb3
  clear hE2
  have hH3 := hH.below hb3
  clear hH2
  have hA3 := hA.below hb3
  clear hA2
  clear hb2
  generalize (((((w2.setCell ⟨w.heap.size, 0, none⟩ (.int .i64 k)).setCell ⟨w.heap.size, 1, none⟩ (.string nd2)).setCell ⟨w.heap.size, 2, none⟩ (.string sv2)).setCell ⟨w.heap.size, 3, none⟩ (.int .i64 a)).setCell ⟨w.heap.size, 4, none⟩ (.int .i64 b)) = w3 at *
  obtain ⟨cX0, cX1, cX2, cX3⟩ := bX.four
  have fX0 := bX.frozen 0
  have fX1 := bX.frozen 1
  have fX2 := bX.frozen 2
  have fX3 := bX.frozen 3
  have lX := bX.lt
  refine (HCX.out w3 hb3).mono ?_
  rintro e w4 ⟨k3, n3, q3, p3, l3, c3, rfl, iX, hc4⟩
  have hb4 := hb3.trans (hc4.mono hb3.size)
  replace bE := bE.here hc4
  replace bX := bX.here hc4
  have hE4 := hE3.below hc4
  clear hE3
  have hH4 := hH3.below hc4
  clear hH3
  have hA4 := hA3.below hc4
  clear hA3
  replace iX := iX.mono (ok' := fun b => w.heap.size + 2 ≤ b) (fun b _ hb => by have h2 : w3.heap.size ≤ b := hb; omega)
  clear hc4 hb3
  clear cX0 cX1 cX2 cX3 fX0 fX1 fX2 fX3 lX
  obtain ⟨cX0, cX1, cX2, cX3⟩ := bX.four
  have fX0 := bX.frozen 0
  have fX1 := bX.frozen 1
  have fX2 := bX.frozen 2
  have fX3 := bX.frozen 3
  have lX := bX.lt
  obtain ⟨cE0, cE1, cE2, cE3, cE4⟩ := bE.five
  have fE0 := bE.frozen 0
  have fE1 := bE.frozen 1
  have fE2 := bE.frozen 2
  have fE3 := bE.frozen 3
  have fE4 := bE.frozen 4
  have lE := bE.lt
  go_wp2_with fail
  clear cE0 cE1 cE2 cE3 cE4 fE0 fE1 fE2 fE3 fE4 lE
  clear cX0 cX1 cX2 cX3 fX0 fX1 fX2 fX3 lX
  have hb5 : Below w.heap.size w ((((w4.setCell ⟨w.heap.size + 1, 0, none⟩ (.int .i64 k3)).setCell ⟨w.heap.size + 1, 1, none⟩ (.int .i64 n3)).setCell ⟨w.heap.size + 1, 2, none⟩ (.string q3)).setCell ⟨w.heap.size + 1, 3, none⟩ (.slice p3 l3 c3)) := (below_sets4 (B := w.heap.size + 1) hb4 (by have := hb4.size; omega) _ _ _ _)
  have bE_ : Blk ((((w4.setCell ⟨w.heap.size + 1, 0, none⟩ (.int .i64 k3)).setCell ⟨w.heap.size + 1, 1, none⟩ (.int .i64 n3)).setCell ⟨w.heap.size + 1, 2, none⟩ (.string q3)).setCell ⟨w.heap.size + 1, 3, none⟩ (.slice p3 l3 c3)) (w.heap.size) 23 #[.int .i64 k, .string nd2, .string sv2, .int .i64 a, .int .i64 b] := (Blk.sets4 (by omega) bE _ _ _ _)
  have bX_ : Blk ((((w4.setCell ⟨w.heap.size + 1, 0, none⟩ (.int .i64 k3)).setCell ⟨w.heap.size + 1, 1, none⟩ (.int .i64 n3)).setCell ⟨w.heap.size + 1, 2, none⟩ (.string q3)).setCell ⟨w.heap.size + 1, 3, none⟩ (.slice p3 l3 c3)) (w.heap.size + 1) 26 #[.int .i64 k3, .int .i64 n3, .string q3, .slice p3 l3 c3] := (bX.set4 _ _ _ _)
  clear bE bX
  have bE := bE_
  clear bE_
  have bX := bX_
  clear bX_
  replace iX := ((((iX.setc (R := w.heap.size + 1) (by omega) 0 (.int .i64 k3)).setc (R := w.heap.size + 1) (by omega) 1 (.int .i64 n3)).setc (R := w.heap.size + 1) (by omega) 2 (.string q3)).setc (R := w.heap.size + 1) (by omega) 3 (.slice p3 l3 c3))
  have hE5 := hE.below hb5
  clear hE4
  have hH5 := hH.below hb5
  clear hH4
  have hA5 := hA.below hb5
  clear hA4
  clear hb4
  generalize ((((w4.setCell ⟨w.heap.size + 1, 0, none⟩ (.int .i64 k3)).setCell ⟨w.heap.size + 1, 1, none⟩ (.int .i64 n3)).setCell ⟨w.heap.size + 1, 2, none⟩ (.string q3)).setCell ⟨w.heap.size + 1, 3, none⟩ (.slice p3 l3 c3)) = w5 at *
  refine (lcut_anyJ s _ hs).mono ?_
  rintro e w' ⟨rfl, rfl⟩
  rw [HC3.out]
  go_wp2_with fail
  refine (lcut_anyJ t _ ht).mono ?_
  rintro e w' ⟨rfl, rfl⟩
  rw [HC4.out]
  obtain ⟨cE0, cE1, cE2, cE3, cE4⟩ := bE.five
  have fE0 := bE.frozen 0
  have fE1 := bE.frozen 1
  have fE2 := bE.frozen 2
  have fE3 := bE.frozen 3
  have fE4 := bE.frozen 4
  have lE := bE.lt
  go_wp2_with fail
  refine (Item_any k nd2 sv2 a b y _ HL.out w5 hE5 ha hbI).mono ?_
  rintro e w6 ⟨⟨k4, n4, q4, p4, l4, c4, rfl, iA⟩, hc6⟩
  replace iX := iX.below hc6
  have hb6 := hb5.trans (hc6.mono hb5.size)
  replace bE := bE.here hc6
  replace bX := bX.here hc6
  have hE6 := hE5.below hc6
  clear hE5
  have hH6 := hH5.below hc6
  clear hH5
  have hA6 := hA5.below hc6
  clear hA5
  clear hc6 hb5
  clear cE0 cE1 cE2 cE3 cE4 fE0 fE1 fE2 fE3 fE4 lE
  have hc7 : Below w6.heap.size w6 (w6.alloc (.cells #[.int .i64 k4, .int .i64 n4, .string q4, .slice p4 l4 c4] 26)) := (Below.refl _ _).alloc (Nat.le_refl _) _
  have bA : Blk (w6.alloc (.cells #[.int .i64 k4, .int .i64 n4, .string q4, .slice p4 l4 c4] 26)) w6.heap.size 26 #[.int .i64 k4, .int .i64 n4, .string q4, .slice p4 l4 c4] := Blk.new _ _ _
  replace iX := iX.below hc7
  replace iA := iA.below hc7
  have hb7 := hb6.trans (hc7.mono hb6.size)
  replace bE := bE.here hc7
  replace bX := bX.here hc7
  have hE7 := hE6.below hc7
  clear hE6
  have hH7 := hH6.below hc7
  clear hH6
  have hA7 := hA6.below hc7
  clear hA6
  clear hc7 hb6
  obtain ⟨cA0, cA1, cA2, cA3⟩ := bA.four
  have fA0 := bA.frozen 0
  have fA1 := bA.frozen 1
  have fA2 := bA.frozen 2
  have fA3 := bA.frozen 3
  have lA := bA.lt
  go_wp2_with fail
  generalize (w6.alloc (.cells #[.int .i64 k4, .int .i64 n4, .string q4, .slice p4 l4 c4] 26)) = w7 at *
  refine (Name_any _ y _ _ rfl w7 hE7 iA hys).mono ?_
  rintro e w8 ⟨rfl, hc8⟩
  replace iX := iX.below hc8
  replace iA := iA.below hc8
  have hb8 := hb7.trans (hc8.mono hb7.size)
  replace bE := bE.here hc8
  replace bX := bX.here hc8
  replace bA := bA.here hc8
  have hE8 := hE7.below hc8
  clear hE7
  have hH8 := hH7.below hc8
  clear hH7
  have hA8 := hA7.below hc8
  clear hA7
  clear hc8 hb7
  clear cA0 cA1 cA2 cA3 fA0 fA1 fA2 fA3 lA
  rw [HM.out, HM2.out]
  clear bA
  clear iA
  have hc9 : Below w8.heap.size w8 (w8.alloc (.cells #[.int .i64 k, .string nd2, .string sv2, .int .i64 a, .int .i64 b] 23)) := (Below.refl _ _).alloc (Nat.le_refl _) _
  have bN : Blk (w8.alloc (.cells #[.int .i64 k, .string nd2, .string sv2, .int .i64 a, .int .i64 b] 23)) w8.heap.size 23 #[.int .i64 k, .string nd2, .string sv2, .int .i64 a, .int .i64 b] := Blk.new _ _ _
  replace iX := iX.below hc9
  have hb9 := hb8.trans (hc9.mono hb8.size)
  replace bE := bE.here hc9
  replace bX := bX.here hc9
  have hE9 := hE8.below hc9
  clear hE8
  have hH9 := hH8.below hc9
  clear hH8
  have hA9 := hA8.below hc9
  clear hA8
  clear hc9 hb8
  obtain ⟨cE0, cE1, cE2, cE3, cE4⟩ := bE.five
  have fE0 := bE.frozen 0
  have fE1 := bE.frozen 1
  have fE2 := bE.frozen 2
  have fE3 := bE.frozen 3
  have fE4 := bE.frozen 4
  have lE := bE.lt
  go_wp2_with fail
  generalize (w8.alloc (.cells #[.int .i64 k, .string nd2, .string sv2, .int .i64 a, .int .i64 b] 23)) = w9 at *
  refine (Encode_any k nd2 sv2 a b w9 hE9 hH9 hA9 ha hbI).mono ?_
  rintro e w10 ⟨rfl, hc10⟩
  replace iX := iX.below hc10
  have hb10 := hb9.trans (hc10.mono hb9.size)
  replace bE := bE.here hc10
  replace bX := bX.here hc10
  replace bN := bN.here hc10
  have hE10 := hE9.below hc10
  clear hE9
  have hH10 := hH9.below hc10
  clear hH9
  have hA10 := hA9.below hc10
  clear hA9
  clear hc10 hb9
  rw [HL2.out]
  clear cE0 cE1 cE2 cE3 cE4 fE0 fE1 fE2 fE3 fE4 lE
  go_wp2_with fail
  refine (Decode_any v (s2.size : Int) w10 hE10 hH10 hA10 hus).mono ?_
  rintro e w11 ⟨rfl, hc11⟩
  replace iX := iX.below hc11
  have hb11 := hb10.trans (hc11.mono hb10.size)
  replace bE := bE.here hc11
  replace bX := bX.here hc11
  replace bN := bN.here hc11
  have hE11 := hE10.below hc11
  clear hE10
  have hH11 := hH10.below hc11
  clear hH10
  have hA11 := hA10.below hc11
  clear hA10
  clear hc11 hb10
  rw [HD.out, HD1.out, HD2.out]
  have hc12 : Below w11.heap.size w11 (w11.alloc (.cells #[.int .i64 k, .string nd2, .string sv2, .int .i64 a, .int .i64 b] 23)) := (Below.refl _ _).alloc (Nat.le_refl _) _
  have bD : Blk (w11.alloc (.cells #[.int .i64 k, .string nd2, .string sv2, .int .i64 a, .int .i64 b] 23)) w11.heap.size 23 #[.int .i64 k, .string nd2, .string sv2, .int .i64 a, .int .i64 b] := Blk.new _ _ _
  replace iX := iX.below hc12
  have hb12 := hb11.trans (hc12.mono hb11.size)
  replace bE := bE.here hc12
  replace bX := bX.here hc12
  replace bN := bN.here hc12
  have hE12 := hE11.below hc12
  clear hE11
  have hH12 := hH11.below hc12
  clear hH11
  have hA12 := hA11.below hc12
  clear hA11
  clear hc12 hb11
  obtain ⟨cX0, cX1, cX2, cX3⟩ := bX.four
  have fX0 := bX.frozen 0
  have fX1 := bX.frozen 1
  have fX2 := bX.frozen 2
  have fX3 := bX.frozen 3
  have lX := bX.lt
  obtain ⟨cE0, cE1, cE2, cE3, cE4⟩ := bE.five
  have fE0 := bE.frozen 0
  have fE1 := bE.frozen 1
  have fE2 := bE.frozen 2
  have fE3 := bE.frozen 3
  have fE4 := bE.frozen 4
  have lE := bE.lt
  obtain ⟨cN0, cN1, cN2, cN3, cN4⟩ := bN.five
  have fN0 := bN.frozen 0
  have fN1 := bN.frozen 1
  have fN2 := bN.frozen 2
  have fN3 := bN.frozen 3
  have fN4 := bN.frozen 4
  have lN := bN.lt
  obtain ⟨cD0, cD1, cD2, cD3, cD4⟩ := bD.five
  have fD0 := bD.frozen 0
  have fD1 := bD.frozen 1
  have fD2 := bD.frozen 2
  have fD3 := bD.frozen 3
  have fD4 := bD.frozen 4
  have lD := bD.lt
  go_wp2_with fail
  generalize (w11.alloc (.cells #[.int .i64 k, .string nd2, .string sv2, .int .i64 a, .int .i64 b] 23)) = w12 at *
  refine (Name_any _ x _ _ rfl w12 hE12 iX hsm).mono ?_
  rintro e w13 ⟨rfl, hc13⟩
  replace iX := iX.below hc13
  have hb13 := hb12.trans (hc13.mono hb12.size)
  replace bE := bE.here hc13
  replace bX := bX.here hc13
  replace bN := bN.here hc13
  replace bD := bD.here hc13
  have hE13 := hE12.below hc13
  clear hE12
  have hH13 := hH12.below hc13
  clear hH12
  have hA13 := hA12.below hc13
  clear hA12
  clear hc13 hb12
  clear cN0 cN1 cN2 cN3 cN4 fN0 fN1 fN2 fN3 fN4 lN
  clear cE0 cE1 cE2 cE3 cE4 fE0 fE1 fE2 fE3 fE4 lE
  clear cX0 cX1 cX2 cX3 fX0 fX1 fX2 fX3 lX
  clear cD0 cD1 cD2 cD3 cD4 fD0 fD1 fD2 fD3 fD4 lD
  rw [HQ.out, HQ2.out]
  clear bN
  clear bD
  have hc14 : Below w13.heap.size w13 (w13.alloc (.cells #[.int .i64 o.k, .string ⟨o.node.toArray⟩, .string ⟨o.serv.toArray⟩, .int .i64 o.a, .int .i64 o.b] 23)) := (Below.refl _ _).alloc (Nat.le_refl _) _
  have bC : Blk (w13.alloc (.cells #[.int .i64 o.k, .string ⟨o.node.toArray⟩, .string ⟨o.serv.toArray⟩, .int .i64 o.a, .int .i64 o.b] 23)) w13.heap.size 23 #[.int .i64 o.k, .string ⟨o.node.toArray⟩, .string ⟨o.serv.toArray⟩, .int .i64 o.a, .int .i64 o.b] := Blk.new _ _ _
  replace iX := iX.below hc14
  have hb14 := hb13.trans (hc14.mono hb13.size)
  replace bE := bE.here hc14
  replace bX := bX.here hc14
  have hE14 := hE13.below hc14
  clear hE13
  have hH14 := hH13.below hc14
  clear hH13
  have hA14 := hA13.below hc14
  clear hA13
  clear hc14 hb13
  obtain ⟨cC0, cC1, cC2, cC3, cC4⟩ := bC.five
  have fC0 := bC.frozen 0
  have fC1 := bC.frozen 1
  have fC2 := bC.frozen 2
  have fC3 := bC.frozen 3
  have fC4 := bC.frozen 4
  have lC := bC.lt
  go_wp2_with fail
  generalize (w13.alloc (.cells #[.int .i64 o.k, .string ⟨o.node.toArray⟩, .string ⟨o.serv.toArray⟩, .int .i64 o.a, .int .i64 o.b] 23)) = w14 at *
  refine (Item_any o.k ⟨o.node.toArray⟩ ⟨o.serv.toArray⟩ o.a o.b x 0 HL3.out w14 hE14 oa ob).mono ?_
  rintro e w15 ⟨⟨k5, n5, q5, p5, l5, c5, rfl, iZ⟩, hc15⟩
  replace iX := iX.below hc15
  have hb15 := hb14.trans (hc15.mono hb14.size)
  replace bE := bE.here hc15
  replace bX := bX.here hc15
  replace bC := bC.here hc15
  have hE15 := hE14.below hc15
  clear hE14
  have hH15 := hH14.below hc15
  clear hH14
  have hA15 := hA14.below hc15
  clear hA14
  clear hc15 hb14
  clear cC0 cC1 cC2 cC3 cC4 fC0 fC1 fC2 fC3 fC4 lC
  have hc16 : Below w15.heap.size w15 (w15.alloc (.cells #[.int .i64 k5, .int .i64 n5, .string q5, .slice p5 l5 c5] 26)) := (Below.refl _ _).alloc (Nat.le_refl _) _
  have bZ : Blk (w15.alloc (.cells #[.int .i64 k5, .int .i64 n5, .string q5, .slice p5 l5 c5] 26)) w15.heap.size 26 #[.int .i64 k5, .int .i64 n5, .string q5, .slice p5 l5 c5] := Blk.new _ _ _
  replace iX := iX.below hc16
  replace iZ := iZ.below hc16
  have hb16 := hb15.trans (hc16.mono hb15.size)
  replace bE := bE.here hc16
  replace bX := bX.here hc16
  replace bC := bC.here hc16
  have hE16 := hE15.below hc16
  clear hE15
  have hH16 := hH15.below hc16
  clear hH15
  have hA16 := hA15.below hc16
  clear hA15
  clear hc16 hb15
  obtain ⟨cE0, cE1, cE2, cE3, cE4⟩ := bE.five
  have fE0 := bE.frozen 0
  have fE1 := bE.frozen 1
  have fE2 := bE.frozen 2
  have fE3 := bE.frozen 3
  have fE4 := bE.frozen 4
  have lE := bE.lt
  go_wp2_with fail
  generalize (w15.alloc (.cells #[.int .i64 k5, .int .i64 n5, .string q5, .slice p5 l5 c5] 26)) = w16 at *
  refine (eright_any k nd2 sv2 a b w16 hE16 ha hbI).mono ?_
  rintro e w17 ⟨rfl, hc17⟩
  replace iX := iX.below hc17
  replace iZ := iZ.below hc17
  have hb17 := hb16.trans (hc17.mono hb16.size)
  replace bE := bE.here hc17
  replace bX := bX.here hc17
  replace bC := bC.here hc17
  replace bZ := bZ.here hc17
  have hE17 := hE16.below hc17
  clear hE16
  have hH17 := hH16.below hc17
  clear hH16
  have hA17 := hA16.below hc17
  clear hA16
  clear hc17 hb16
  clear cE0 cE1 cE2 cE3 cE4 fE0 fE1 fE2 fE3 fE4 lE
  rw [HR.out]
  obtain ⟨cZ0, cZ1, cZ2, cZ3⟩ := bZ.four
  have fZ0 := bZ.frozen 0
  have fZ1 := bZ.frozen 1
  have fZ2 := bZ.frozen 2
  have fZ3 := bZ.frozen 3
  have lZ := bZ.lt
  obtain ⟨cX0, cX1, cX2, cX3⟩ := bX.four
  have fX0 := bX.frozen 0
  have fX1 := bX.frozen 1
  have fX2 := bX.frozen 2
  have fX3 := bX.frozen 3
  have lX := bX.lt
  go_wp2_with fail
  refine (same_any _ _ (dep x) x x _ _ w17 (Nat.le_refl _) iZ iX).mono ?_
  rintro e w18 ⟨rfl, hc18⟩
  replace iX := iX.below hc18
  replace iZ := iZ.below hc18
  have hb18 := hb17.trans (hc18.mono hb17.size)
  replace bE := bE.here hc18
  replace bX := bX.here hc18
  replace bC := bC.here hc18
  replace bZ := bZ.here hc18
  have hE18 := hE17.below hc18
  clear hE17
  have hH18 := hH17.below hc18
  clear hH17
  have hA18 := hA17.below hc18
  clear hA17
  clear hc18 hb17
  clear cX0 cX1 cX2 cX3 fX0 fX1 fX2 fX3 lX
  clear cZ0 cZ1 cZ2 cZ3 fZ0 fZ1 fZ2 fZ3 lZ
  rw [sameB_self]
  go_wp2_with fail
  go_ret
  exact ⟨rfl, hb18⟩

theorem nm_i64 {o : Nm} (h : nmR o = true) : I64 o.a ∧ I64 o.b := by
  have z : I64 (0 : Int) := by unfold I64; decide
  rcases nmR_cases h with rfl | ⟨_, _, _, _, e1, e2⟩ | ⟨A, B, rfl, _, h3, h4⟩
  · exact ⟨z, z⟩
  · rw [e1, e2]; exact ⟨z, z⟩
  · exact ⟨by show I64 (A : Int); unfold I64; omega, by show I64 (B : Int); unfold I64; omega⟩
theorem decN_mid {o : Nm} (h : nmR o = true) (q r : ByteArray) : decN (q ++ ⟨(encI (itmN o)).toArray⟩ ++ r) (q.size : Int) = (o, (q.size : Int) + ((⟨(encI (itmN o)).toArray⟩ : ByteArray).size : Int), 0) := by
  unfold decN
  rw [decI_mid (itm_right h) q r]
  simp only [if_true, nmI_itm h]
theorem back_walkJ (k : Int) (nd sv : ByteArray) (a b : Int) (X : Itm) (vx : Value) (s t : ByteArray) (w : World) (hE : EnvN w) (hH : HeadOK w) (hA : EnvE w) (ha : I64 a) (hbI : I64 b) (hn : nd.size ≤ maxLen) (hs9 : sv.size ≤ maxLen) (hx : ItV (fun _ => True) w X vx) (hs : s.size ≤ maxLen) (ht : t.size ≤ maxLen) :
    Calls Tryz.prog 5 #[nmV k nd sv a b, vx, .string s, .string t] w fun e w' => e = .returned (.bool true) ∧ Below w.heap.size w w' := by
  obtain ⟨kx, nx, qx, px, lx, cx, rfl, hCx⟩ := cut_in hx
  have hpx := prt_cut X
  generalize cutI 6 X = x at hCx hpx
  have l1 := c21_le nd
  have l2 := c21_le sv
  have l3 := c300_le s
  have l4 := c300_le t
  have l5 := encN_small (nmO k (c21 nd) (c21 sv) a b)
  have hus : (c300 s ++ (encN (nmO k (c21 nd) (c21 sv) a b)).1 ++ c300 t).size ≤ 1000000 := by rw [ByteArray.size_append, ByteArray.size_append]; omega
  have nx0 : nmX none = .agg #[.int .i64 0, .string ⟨#[]⟩, .string ⟨#[]⟩, .int .i64 0, .int .i64 0] := rfl
  have lay0 : layI (nmO 0 ⟨#[]⟩ ⟨#[]⟩ 0 0) = (itmN nm0, 0) := rfl
  cases hr : nmR (nmO k (c21 nd) (c21 sv) a b) with
  | false =>
    have hl : layI (nmO k (c21 nd) (c21 sv) a b) = (zerI, 60) := by unfold layI; rw [hr]; rfl
    have he := encN_no hr
    have hz0 : nmI zerI = none := by kernel_rfl
    cases hq : nmI x with
    | none => exact back_ofJ00 k nd sv _ _ a b kx nx qx px lx cx x s t _ _ ⟨#[]⟩ _ zerI _ nm0 _ _ _ w hE hH hA ha hbI hn hs9 rfl rfl (by omega) (by omega) hCx hpx hs ht rfl rfl hr hl (by rw [hz0]; rfl) (by rw [hz0]; rfl) he rfl rfl rfl rfl (by rw [he] at hus; exact hus) (by decide) (by rw [hq]; rfl) (by rw [hq]; rfl) lay0 l3 (by decide) l4
    | some o =>
      obtain ⟨h1, h2⟩ := nmI_back hq
      obtain ⟨oa, ob⟩ := nm_i64 h1
      exact back_ofJ01 k nd sv _ _ a b kx nx qx px lx cx x s t _ _ ⟨#[]⟩ _ zerI zerI o _ _ _ w hE hH hA ha hbI hn hs9 rfl rfl (by omega) (by omega) hCx hpx hs ht rfl rfl hr hl (by rw [hz0]; rfl) (by rw [hz0]; rfl) he rfl rfl rfl rfl (by rw [he] at hus; exact hus) (by decide) (by rw [hq]; rfl) (by rw [hq]; rfl) (by rw [nmO_self]; unfold layI; rw [h1, h2]; rfl) oa ob l3 (by decide) l4
  | true =>
    have hl : layI (nmO k (c21 nd) (c21 sv) a b) = (itmN (nmO k (c21 nd) (c21 sv) a b), 0) := by unfold layI; rw [hr]; rfl
    have he := encN_yes hr
    rw [he] at l5 hus
    have hd := decN_mid hr (c300 s) (c300 t)
    have hys : (prt (itmN (nmO k (c21 nd) (c21 sv) a b)) 1).s.length ≤ 4000000000 := Nat.le_trans (prt_small (itm_right hr) 1) (by decide)
    have hm := nmI_itm hr
    cases hq : nmI x with
    | none => exact back_ofJ10 k nd sv _ _ a b kx nx qx px lx cx x s t _ _ _ _ _ _ nm0 nm0 _ _ w hE hH hA ha hbI hn hs9 rfl rfl (by omega) (by omega) hCx hpx hs ht rfl rfl hr hl (by rw [hm]; exact nmW_O _ _ _ _ _) (by rw [hm]; rfl) he (by rw [hd]; exact nmW_O _ _ _ _ _) rfl rfl rfl hus hys (by rw [hd]) (by rw [hd]) (by rw [hq]; rfl) (by rw [hq]; rfl) lay0 l3 l5 l4
    | some o =>
      obtain ⟨h1, h2⟩ := nmI_back hq
      obtain ⟨oa, ob⟩ := nm_i64 h1
      exact back_ofJ11 k nd sv _ _ a b kx nx qx px lx cx x s t _ _ _ _ _ zerI o nm0 _ _ w hE hH hA ha hbI hn hs9 rfl rfl (by omega) (by omega) hCx hpx hs ht rfl rfl hr hl (by rw [hm]; exact nmW_O _ _ _ _ _) (by rw [hm]; rfl) he (by rw [hd]; exact nmW_O _ _ _ _ _) rfl rfl rfl hus hys (by rw [hd]) (by rw [hd]) (by rw [hq]; rfl) (by rw [hq]; rfl) (by rw [nmO_self]; unfold layI; rw [h1, h2]; rfl) oa ob l3 l5 l4

end Go.Proofs.YtmbmolgkccjedaaGreatDoor
