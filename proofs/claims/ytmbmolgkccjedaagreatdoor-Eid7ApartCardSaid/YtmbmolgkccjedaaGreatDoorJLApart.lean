/- The walk of Eid7Apart. -/
import Derived.Test.YtmbmolgkccjedaaGreatDoorM29
set_option linter.unusedVariables false
set_option linter.unusedSimpArgs false
namespace Go.Proofs.YtmbmolgkccjedaaGreatDoor
open Go.RowKit
attribute [local go_sem ↓] Go.wp_at_zero Go.wp_at_succ

set_option maxRecDepth 100000 in
set_option maxHeartbeats 4000000 in
theorem apart_no (k : Int) (nd sv nd2 sv2 : ByteArray) (a b : Int) (k6 : Int) (nd6 sv6 nd7 sv7 : ByteArray) (a6 b6 : Int) (s t : ByteArray)  (w : World) (hE : EnvN w) (hH : HeadOK w) (hA : EnvE w) (ha : I64 a) (hbI : I64 b) (hn : nd.size ≤ maxLen) (hs9 : sv.size ≤ maxLen) (hc1 : c21 nd = nd2) (hc2 : c21 sv = sv2) (hn2 : nd2.size ≤ 4000000000) (hv2 : sv2.size ≤ 4000000000) (ha6 : I64 a6) (hb6_ : I64 b6) (hn6 : nd6.size ≤ maxLen) (hs6 : sv6.size ≤ maxLen) (hc6 : c21 nd6 = nd7) (hc7 : c21 sv6 = sv7) (u v : Int) (hl : encN (nmO k nd2 sv2 a b) = (s, u)) (hl2 : encN (nmO k6 nd7 sv7 a6 b6) = (t, v)) (hs : (u == 0) = true ∧ (u != 0) = false ∨ (u == 0) = false ∧ (u != 0) = true ∧ s = ⟨#[]⟩) (ht : (v == 0) = true ∧ (v != 0) = false ∨ (v == 0) = false ∧ (v != 0) = true ∧ t = ⟨#[]⟩) (huv : (u != 0) = true ∨ (v != 0) = true) (hsz : s.size ≤ 36540) (htz : t.size ≤ 36540) :
    Calls Tryz.prog 6 #[.agg #[.int .i64 k, .string nd, .string sv, .int .i64 a, .int .i64 b], .agg #[.int .i64 k6, .string nd6, .string sv6, .int .i64 a6, .int .i64 b6]] w fun e w' => e = .returned (.bool true) ∧ Below w.heap.size w w' := by
  have HC1 := Lib.hid hc1
  clear hc1
  have HC2 := Lib.hid hc2
  clear hc2
  have HC6 := Lib.hid hc6
  clear hc6
  have HC7 := Lib.hid hc7
  clear hc7
  have HL := Lib.hid hl
  clear hl
  have HL2 := Lib.hid hl2
  clear hl2
  have bY_ := Blk.new (w.alloc (.cells #[.int .i64 k, .string nd, .string sv, .int .i64 a, .int .i64 b] 23)) 23 #[.int .i64 k6, .string nd6, .string sv6, .int .i64 a6, .int .i64 b6]
  simp only [World.size_alloc] at bY_
  have bE : Blk ((w.alloc (.cells #[.int .i64 k, .string nd, .string sv, .int .i64 a, .int .i64 b] 23)).alloc (.cells #[.int .i64 k6, .string nd6, .string sv6, .int .i64 a6, .int .i64 b6] 23)) (w.heap.size) 23 #[.int .i64 k, .string nd, .string sv, .int .i64 a, .int .i64 b] := (Blk.new w _ _).alloc _
  have bY : Blk ((w.alloc (.cells #[.int .i64 k, .string nd, .string sv, .int .i64 a, .int .i64 b] 23)).alloc (.cells #[.int .i64 k6, .string nd6, .string sv6, .int .i64 a6, .int .i64 b6] 23)) (w.heap.size + 1) 23 #[.int .i64 k6, .string nd6, .string sv6, .int .i64 a6, .int .i64 b6] := bY_
  have hb : Below w.heap.size w ((w.alloc (.cells #[.int .i64 k, .string nd, .string sv, .int .i64 a, .int .i64 b] 23)).alloc (.cells #[.int .i64 k6, .string nd6, .string sv6, .int .i64 a6, .int .i64 b6] 23)) := (((Below.refl _ w).alloc (Nat.le_refl _) _).alloc (by simp; try omega) _)
  have hE0 := hE.below hb
  have hH0 := hH.below hb
  have hA0 := hA.below hb
  clear bY_
  go_enter Tryz.func6, Tryz.ntmps6
  go_wp2_with fail
  generalize ((w.alloc (.cells #[.int .i64 k, .string nd, .string sv, .int .i64 a, .int .i64 b] 23)).alloc (.cells #[.int .i64 k6, .string nd6, .string sv6, .int .i64 a6, .int .i64 b6] 23)) = w0 at *
  refine (shown_anyJ w0 hE0 hH0 hA0).mono ?_
  rintro e w1 ⟨rfl, hc1⟩
  have hb1 := hb.trans (hc1.mono hb.size)
  replace bE := bE.here hc1
  replace bY := bY.here hc1
  have hE1 := hE0.below hc1
  clear hE0
  have hH1 := hH0.below hc1
  clear hH0
  have hA1 := hA0.below hc1
  clear hA0
  clear hc1 hb
  obtain ⟨cE0, cE1, cE2, cE3, cE4⟩ := bE.five
  have fE0 := bE.frozen 0
  have fE1 := bE.frozen 1
  have fE2 := bE.frozen 2
  have fE3 := bE.frozen 3
  have fE4 := bE.frozen 4
  have lE := bE.lt
  go_wp2_with fail
  refine (lCut_any k nd sv a b w1 hn hs9).mono ?_
  rintro e w2 ⟨rfl, hc2⟩
  have hb2 := hb1.trans (hc2.mono hb1.size)
  replace bE := bE.here hc2
  replace bY := bY.here hc2
  have hE2 := hE1.below hc2
  clear hE1
  have hH2 := hH1.below hc2
  clear hH1
  have hA2 := hA1.below hc2
  clear hA1
  clear hc2 hb1
  rw [HC1.out, HC2.out]
  unfold nmV
  clear cE0 cE1 cE2 cE3 cE4 fE0 fE1 fE2 fE3 fE4 lE
  obtain ⟨cE0, cE1, cE2, cE3, cE4⟩ := bE.five
  have fE0 := bE.frozen 0
  have fE1 := bE.frozen 1
  have fE2 := bE.frozen 2
  have fE3 := bE.frozen 3
  have fE4 := bE.frozen 4
  have lE := bE.lt
  obtain ⟨cY0, cY1, cY2, cY3, cY4⟩ := bY.five
  have fY0 := bY.frozen 0
  have fY1 := bY.frozen 1
  have fY2 := bY.frozen 2
  have fY3 := bY.frozen 3
  have fY4 := bY.frozen 4
  have lY := bY.lt
  go_wp2_with fail
  clear cE0 cE1 cE2 cE3 cE4 fE0 fE1 fE2 fE3 fE4 lE
  clear cY0 cY1 cY2 cY3 cY4 fY0 fY1 fY2 fY3 fY4 lY
  have hb3 : Below w.heap.size w (((((w2.setCell ⟨w.heap.size, 0, none⟩ (.int .i64 k)).setCell ⟨w.heap.size, 1, none⟩ (.string nd2)).setCell ⟨w.heap.size, 2, none⟩ (.string sv2)).setCell ⟨w.heap.size, 3, none⟩ (.int .i64 a)).setCell ⟨w.heap.size, 4, none⟩ (.int .i64 b)) := (below_sets5 (B := w.heap.size) hb2 (by have := hb2.size; omega) _ _ _ _ _)
  have bE_ : Blk (((((w2.setCell ⟨w.heap.size, 0, none⟩ (.int .i64 k)).setCell ⟨w.heap.size, 1, none⟩ (.string nd2)).setCell ⟨w.heap.size, 2, none⟩ (.string sv2)).setCell ⟨w.heap.size, 3, none⟩ (.int .i64 a)).setCell ⟨w.heap.size, 4, none⟩ (.int .i64 b)) (w.heap.size) 23 #[.int .i64 k, .string nd2, .string sv2, .int .i64 a, .int .i64 b] := (bE.set5 _ _ _ _ _)
  have bY_ : Blk (((((w2.setCell ⟨w.heap.size, 0, none⟩ (.int .i64 k)).setCell ⟨w.heap.size, 1, none⟩ (.string nd2)).setCell ⟨w.heap.size, 2, none⟩ (.string sv2)).setCell ⟨w.heap.size, 3, none⟩ (.int .i64 a)).setCell ⟨w.heap.size, 4, none⟩ (.int .i64 b)) (w.heap.size + 1) 23 #[.int .i64 k6, .string nd6, .string sv6, .int .i64 a6, .int .i64 b6] := (Blk.sets5 (by omega) bY _ _ _ _ _)
  clear bE bY
  have bE := bE_
  clear bE_
  have bY := bY_
  clear bY_
  have hE3 := hE.below hb3
  clear hE2
  have hH3 := hH.below hb3
  clear hH2
  have hA3 := hA.below hb3
  clear hA2
  clear hb2
  generalize (((((w2.setCell ⟨w.heap.size, 0, none⟩ (.int .i64 k)).setCell ⟨w.heap.size, 1, none⟩ (.string nd2)).setCell ⟨w.heap.size, 2, none⟩ (.string sv2)).setCell ⟨w.heap.size, 3, none⟩ (.int .i64 a)).setCell ⟨w.heap.size, 4, none⟩ (.int .i64 b)) = w3 at *
  obtain ⟨cY0, cY1, cY2, cY3, cY4⟩ := bY.five
  have fY0 := bY.frozen 0
  have fY1 := bY.frozen 1
  have fY2 := bY.frozen 2
  have fY3 := bY.frozen 3
  have fY4 := bY.frozen 4
  have lY := bY.lt
  refine (lCut_any k6 nd6 sv6 a6 b6 w3 hn6 hs6).mono ?_
  rintro e w4 ⟨rfl, hc4⟩
  have hb4 := hb3.trans (hc4.mono hb3.size)
  replace bE := bE.here hc4
  replace bY := bY.here hc4
  have hE4 := hE3.below hc4
  clear hE3
  have hH4 := hH3.below hc4
  clear hH3
  have hA4 := hA3.below hc4
  clear hA3
  clear hc4 hb3
  rw [HC6.out, HC7.out]
  unfold nmV
  clear cY0 cY1 cY2 cY3 cY4 fY0 fY1 fY2 fY3 fY4 lY
  obtain ⟨cE0, cE1, cE2, cE3, cE4⟩ := bE.five
  have fE0 := bE.frozen 0
  have fE1 := bE.frozen 1
  have fE2 := bE.frozen 2
  have fE3 := bE.frozen 3
  have fE4 := bE.frozen 4
  have lE := bE.lt
  obtain ⟨cY0, cY1, cY2, cY3, cY4⟩ := bY.five
  have fY0 := bY.frozen 0
  have fY1 := bY.frozen 1
  have fY2 := bY.frozen 2
  have fY3 := bY.frozen 3
  have fY4 := bY.frozen 4
  have lY := bY.lt
  go_wp2_with fail
  clear cE0 cE1 cE2 cE3 cE4 fE0 fE1 fE2 fE3 fE4 lE
  clear cY0 cY1 cY2 cY3 cY4 fY0 fY1 fY2 fY3 fY4 lY
  have hb5 : Below w.heap.size w (((((w4.setCell ⟨w.heap.size + 1, 0, none⟩ (.int .i64 k6)).setCell ⟨w.heap.size + 1, 1, none⟩ (.string nd7)).setCell ⟨w.heap.size + 1, 2, none⟩ (.string sv7)).setCell ⟨w.heap.size + 1, 3, none⟩ (.int .i64 a6)).setCell ⟨w.heap.size + 1, 4, none⟩ (.int .i64 b6)) := (below_sets5 (B := w.heap.size + 1) hb4 (by have := hb4.size; omega) _ _ _ _ _)
  have bE_ : Blk (((((w4.setCell ⟨w.heap.size + 1, 0, none⟩ (.int .i64 k6)).setCell ⟨w.heap.size + 1, 1, none⟩ (.string nd7)).setCell ⟨w.heap.size + 1, 2, none⟩ (.string sv7)).setCell ⟨w.heap.size + 1, 3, none⟩ (.int .i64 a6)).setCell ⟨w.heap.size + 1, 4, none⟩ (.int .i64 b6)) (w.heap.size) 23 #[.int .i64 k, .string nd2, .string sv2, .int .i64 a, .int .i64 b] := (Blk.sets5 (by omega) bE _ _ _ _ _)
  have bY_ : Blk (((((w4.setCell ⟨w.heap.size + 1, 0, none⟩ (.int .i64 k6)).setCell ⟨w.heap.size + 1, 1, none⟩ (.string nd7)).setCell ⟨w.heap.size + 1, 2, none⟩ (.string sv7)).setCell ⟨w.heap.size + 1, 3, none⟩ (.int .i64 a6)).setCell ⟨w.heap.size + 1, 4, none⟩ (.int .i64 b6)) (w.heap.size + 1) 23 #[.int .i64 k6, .string nd7, .string sv7, .int .i64 a6, .int .i64 b6] := (bY.set5 _ _ _ _ _)
  clear bE bY
  have bE := bE_
  clear bE_
  have bY := bY_
  clear bY_
  have hE5 := hE.below hb5
  clear hE4
  have hH5 := hH.below hb5
  clear hH4
  have hA5 := hA.below hb5
  clear hA4
  clear hb4
  generalize (((((w4.setCell ⟨w.heap.size + 1, 0, none⟩ (.int .i64 k6)).setCell ⟨w.heap.size + 1, 1, none⟩ (.string nd7)).setCell ⟨w.heap.size + 1, 2, none⟩ (.string sv7)).setCell ⟨w.heap.size + 1, 3, none⟩ (.int .i64 a6)).setCell ⟨w.heap.size + 1, 4, none⟩ (.int .i64 b6)) = w5 at *
  refine (Encode_any k nd2 sv2 a b w5 hE5 hH5 hA5 ha hbI).mono ?_
  rintro e w6 ⟨rfl, hc6⟩
  have hb6 := hb5.trans (hc6.mono hb5.size)
  replace bE := bE.here hc6
  replace bY := bY.here hc6
  have hE6 := hE5.below hc6
  clear hE5
  have hH6 := hH5.below hc6
  clear hH5
  have hA6 := hA5.below hc6
  clear hA5
  clear hc6 hb5
  rw [HL.out]
  obtain ⟨cY0, cY1, cY2, cY3, cY4⟩ := bY.five
  have fY0 := bY.frozen 0
  have fY1 := bY.frozen 1
  have fY2 := bY.frozen 2
  have fY3 := bY.frozen 3
  have fY4 := bY.frozen 4
  have lY := bY.lt
  go_wp2_with fail
  refine (Encode_any k6 nd7 sv7 a6 b6 w6 hE6 hH6 hA6 ha6 hb6_).mono ?_
  rintro e w7 ⟨rfl, hc7⟩
  have hb7 := hb6.trans (hc7.mono hb6.size)
  replace bE := bE.here hc7
  replace bY := bY.here hc7
  have hE7 := hE6.below hc7
  clear hE6
  have hH7 := hH6.below hc7
  clear hH6
  have hA7 := hA6.below hc7
  clear hA6
  clear hc7 hb6
  rw [HL2.out]
  clear cY0 cY1 cY2 cY3 cY4 fY0 fY1 fY2 fY3 fY4 lY
  obtain ⟨cE0, cE1, cE2, cE3, cE4⟩ := bE.five
  have fE0 := bE.frozen 0
  have fE1 := bE.frozen 1
  have fE2 := bE.frozen 2
  have fE3 := bE.frozen 3
  have fE4 := bE.frozen 4
  have lE := bE.lt
  obtain ⟨cY0, cY1, cY2, cY3, cY4⟩ := bY.five
  have fY0 := bY.frozen 0
  have fY1 := bY.frozen 1
  have fY2 := bY.frozen 2
  have fY3 := bY.frozen 3
  have fY4 := bY.frozen 4
  have lY := bY.lt
  rcases hs with ⟨s1, s2⟩ | ⟨s1, s2, rfl⟩ <;> rcases ht with ⟨t1, t2⟩ | ⟨t1, t2, rfl⟩
  · rw [s2, t2] at huv; simp at huv
  · go_wp2_with fail
    go_ret
    exact ⟨rfl, hb7⟩
  · go_wp2_with fail
    go_ret
    exact ⟨rfl, hb7⟩
  · go_wp2_with fail
    go_ret
    exact ⟨rfl, hb7⟩

set_option maxRecDepth 100000 in
set_option maxHeartbeats 4000000 in
theorem apart_same (k : Int) (nd sv nd2 sv2 : ByteArray) (a b : Int) (k6 : Int) (nd6 sv6 nd7 sv7 : ByteArray) (a6 b6 : Int) (s t : ByteArray) (w : World) (hE : EnvN w) (hH : HeadOK w) (hA : EnvE w) (ha : I64 a) (hbI : I64 b) (hn : nd.size ≤ maxLen) (hs9 : sv.size ≤ maxLen) (hc1 : c21 nd = nd2) (hc2 : c21 sv = sv2) (hn2 : nd2.size ≤ 4000000000) (hv2 : sv2.size ≤ 4000000000) (ha6 : I64 a6) (hb6_ : I64 b6) (hn6 : nd6.size ≤ maxLen) (hs6 : sv6.size ≤ maxLen) (hc6 : c21 nd6 = nd7) (hc7 : c21 sv6 = sv7) (hl : encN (nmO k nd2 sv2 a b) = (s, 0)) (hl2 : encN (nmO k6 nd7 sv7 a6 b6) = (s, 0)) (e1 : ∀ W : World, (binOp .eql 23 (.agg #[.int .i64 k, .string nd2, .string sv2, .int .i64 a, .int .i64 b]) (.agg #[.int .i64 k6, .string nd7, .string sv7, .int .i64 a6, .int .i64 b6])).run Tryz.prog W = .ok (.bool true) W) (hx : s.extract 0 s.size = s) (hsz : s.size ≤ 36540) (htz : t.size ≤ 36540) :
    Calls Tryz.prog 6 #[.agg #[.int .i64 k, .string nd, .string sv, .int .i64 a, .int .i64 b], .agg #[.int .i64 k6, .string nd6, .string sv6, .int .i64 a6, .int .i64 b6]] w fun e w' => e = .returned (.bool true) ∧ Below w.heap.size w w' := by
  have HC1 := Lib.hid hc1
  clear hc1
  have HC2 := Lib.hid hc2
  clear hc2
  have HC6 := Lib.hid hc6
  clear hc6
  have HC7 := Lib.hid hc7
  clear hc7
  have HL := Lib.hid hl
  clear hl
  have HL2 := Lib.hid hl2
  clear hl2
  have bY_ := Blk.new (w.alloc (.cells #[.int .i64 k, .string nd, .string sv, .int .i64 a, .int .i64 b] 23)) 23 #[.int .i64 k6, .string nd6, .string sv6, .int .i64 a6, .int .i64 b6]
  simp only [World.size_alloc] at bY_
  have bE : Blk ((w.alloc (.cells #[.int .i64 k, .string nd, .string sv, .int .i64 a, .int .i64 b] 23)).alloc (.cells #[.int .i64 k6, .string nd6, .string sv6, .int .i64 a6, .int .i64 b6] 23)) (w.heap.size) 23 #[.int .i64 k, .string nd, .string sv, .int .i64 a, .int .i64 b] := (Blk.new w _ _).alloc _
  have bY : Blk ((w.alloc (.cells #[.int .i64 k, .string nd, .string sv, .int .i64 a, .int .i64 b] 23)).alloc (.cells #[.int .i64 k6, .string nd6, .string sv6, .int .i64 a6, .int .i64 b6] 23)) (w.heap.size + 1) 23 #[.int .i64 k6, .string nd6, .string sv6, .int .i64 a6, .int .i64 b6] := bY_
  have hb : Below w.heap.size w ((w.alloc (.cells #[.int .i64 k, .string nd, .string sv, .int .i64 a, .int .i64 b] 23)).alloc (.cells #[.int .i64 k6, .string nd6, .string sv6, .int .i64 a6, .int .i64 b6] 23)) := (((Below.refl _ w).alloc (Nat.le_refl _) _).alloc (by simp; try omega) _)
  have hE0 := hE.below hb
  have hH0 := hH.below hb
  have hA0 := hA.below hb
  clear bY_
  go_enter Tryz.func6, Tryz.ntmps6
  go_wp2_with fail
  generalize ((w.alloc (.cells #[.int .i64 k, .string nd, .string sv, .int .i64 a, .int .i64 b] 23)).alloc (.cells #[.int .i64 k6, .string nd6, .string sv6, .int .i64 a6, .int .i64 b6] 23)) = w0 at *
  refine (shown_anyJ w0 hE0 hH0 hA0).mono ?_
  rintro e w1 ⟨rfl, hc1⟩
  have hb1 := hb.trans (hc1.mono hb.size)
  replace bE := bE.here hc1
  replace bY := bY.here hc1
  have hE1 := hE0.below hc1
  clear hE0
  have hH1 := hH0.below hc1
  clear hH0
  have hA1 := hA0.below hc1
  clear hA0
  clear hc1 hb
  obtain ⟨cE0, cE1, cE2, cE3, cE4⟩ := bE.five
  have fE0 := bE.frozen 0
  have fE1 := bE.frozen 1
  have fE2 := bE.frozen 2
  have fE3 := bE.frozen 3
  have fE4 := bE.frozen 4
  have lE := bE.lt
  go_wp2_with fail
  refine (lCut_any k nd sv a b w1 hn hs9).mono ?_
  rintro e w2 ⟨rfl, hc2⟩
  have hb2 := hb1.trans (hc2.mono hb1.size)
  replace bE := bE.here hc2
  replace bY := bY.here hc2
  have hE2 := hE1.below hc2
  clear hE1
  have hH2 := hH1.below hc2
  clear hH1
  have hA2 := hA1.below hc2
  clear hA1
  clear hc2 hb1
  rw [HC1.out, HC2.out]
  unfold nmV
  clear cE0 cE1 cE2 cE3 cE4 fE0 fE1 fE2 fE3 fE4 lE
  obtain ⟨cE0, cE1, cE2, cE3, cE4⟩ := bE.five
  have fE0 := bE.frozen 0
  have fE1 := bE.frozen 1
  have fE2 := bE.frozen 2
  have fE3 := bE.frozen 3
  have fE4 := bE.frozen 4
  have lE := bE.lt
  obtain ⟨cY0, cY1, cY2, cY3, cY4⟩ := bY.five
  have fY0 := bY.frozen 0
  have fY1 := bY.frozen 1
  have fY2 := bY.frozen 2
  have fY3 := bY.frozen 3
  have fY4 := bY.frozen 4
  have lY := bY.lt
  go_wp2_with fail
  clear cE0 cE1 cE2 cE3 cE4 fE0 fE1 fE2 fE3 fE4 lE
  clear cY0 cY1 cY2 cY3 cY4 fY0 fY1 fY2 fY3 fY4 lY
  have hb3 : Below w.heap.size w (((((w2.setCell ⟨w.heap.size, 0, none⟩ (.int .i64 k)).setCell ⟨w.heap.size, 1, none⟩ (.string nd2)).setCell ⟨w.heap.size, 2, none⟩ (.string sv2)).setCell ⟨w.heap.size, 3, none⟩ (.int .i64 a)).setCell ⟨w.heap.size, 4, none⟩ (.int .i64 b)) := (below_sets5 (B := w.heap.size) hb2 (by have := hb2.size; omega) _ _ _ _ _)
  have bE_ : Blk (((((w2.setCell ⟨w.heap.size, 0, none⟩ (.int .i64 k)).setCell ⟨w.heap.size, 1, none⟩ (.string nd2)).setCell ⟨w.heap.size, 2, none⟩ (.string sv2)).setCell ⟨w.heap.size, 3, none⟩ (.int .i64 a)).setCell ⟨w.heap.size, 4, none⟩ (.int .i64 b)) (w.heap.size) 23 #[.int .i64 k, .string nd2, .string sv2, .int .i64 a, .int .i64 b] := (bE.set5 _ _ _ _ _)
  have bY_ : Blk (((((w2.setCell ⟨w.heap.size, 0, none⟩ (.int .i64 k)).setCell ⟨w.heap.size, 1, none⟩ (.string nd2)).setCell ⟨w.heap.size, 2, none⟩ (.string sv2)).setCell ⟨w.heap.size, 3, none⟩ (.int .i64 a)).setCell ⟨w.heap.size, 4, none⟩ (.int .i64 b)) (w.heap.size + 1) 23 #[.int .i64 k6, .string nd6, .string sv6, .int .i64 a6, .int .i64 b6] := (Blk.sets5 (by omega) bY _ _ _ _ _)
  clear bE bY
  have bE := bE_
  clear bE_
  have bY := bY_
  clear bY_
  have hE3 := hE.below hb3
  clear hE2
  have hH3 := hH.below hb3
  clear hH2
  have hA3 := hA.below hb3
  clear hA2
  clear hb2
  generalize (((((w2.setCell ⟨w.heap.size, 0, none⟩ (.int .i64 k)).setCell ⟨w.heap.size, 1, none⟩ (.string nd2)).setCell ⟨w.heap.size, 2, none⟩ (.string sv2)).setCell ⟨w.heap.size, 3, none⟩ (.int .i64 a)).setCell ⟨w.heap.size, 4, none⟩ (.int .i64 b)) = w3 at *
  obtain ⟨cY0, cY1, cY2, cY3, cY4⟩ := bY.five
  have fY0 := bY.frozen 0
  have fY1 := bY.frozen 1
  have fY2 := bY.frozen 2
  have fY3 := bY.frozen 3
  have fY4 := bY.frozen 4
  have lY := bY.lt
  refine (lCut_any k6 nd6 sv6 a6 b6 w3 hn6 hs6).mono ?_
  rintro e w4 ⟨rfl, hc4⟩
  have hb4 := hb3.trans (hc4.mono hb3.size)
  replace bE := bE.here hc4
  replace bY := bY.here hc4
  have hE4 := hE3.below hc4
  clear hE3
  have hH4 := hH3.below hc4
  clear hH3
  have hA4 := hA3.below hc4
  clear hA3
  clear hc4 hb3
  rw [HC6.out, HC7.out]
  unfold nmV
  clear cY0 cY1 cY2 cY3 cY4 fY0 fY1 fY2 fY3 fY4 lY
  obtain ⟨cE0, cE1, cE2, cE3, cE4⟩ := bE.five
  have fE0 := bE.frozen 0
  have fE1 := bE.frozen 1
  have fE2 := bE.frozen 2
  have fE3 := bE.frozen 3
  have fE4 := bE.frozen 4
  have lE := bE.lt
  obtain ⟨cY0, cY1, cY2, cY3, cY4⟩ := bY.five
  have fY0 := bY.frozen 0
  have fY1 := bY.frozen 1
  have fY2 := bY.frozen 2
  have fY3 := bY.frozen 3
  have fY4 := bY.frozen 4
  have lY := bY.lt
  go_wp2_with fail
  clear cE0 cE1 cE2 cE3 cE4 fE0 fE1 fE2 fE3 fE4 lE
  clear cY0 cY1 cY2 cY3 cY4 fY0 fY1 fY2 fY3 fY4 lY
  have hb5 : Below w.heap.size w (((((w4.setCell ⟨w.heap.size + 1, 0, none⟩ (.int .i64 k6)).setCell ⟨w.heap.size + 1, 1, none⟩ (.string nd7)).setCell ⟨w.heap.size + 1, 2, none⟩ (.string sv7)).setCell ⟨w.heap.size + 1, 3, none⟩ (.int .i64 a6)).setCell ⟨w.heap.size + 1, 4, none⟩ (.int .i64 b6)) := (below_sets5 (B := w.heap.size + 1) hb4 (by have := hb4.size; omega) _ _ _ _ _)
  have bE_ : Blk (((((w4.setCell ⟨w.heap.size + 1, 0, none⟩ (.int .i64 k6)).setCell ⟨w.heap.size + 1, 1, none⟩ (.string nd7)).setCell ⟨w.heap.size + 1, 2, none⟩ (.string sv7)).setCell ⟨w.heap.size + 1, 3, none⟩ (.int .i64 a6)).setCell ⟨w.heap.size + 1, 4, none⟩ (.int .i64 b6)) (w.heap.size) 23 #[.int .i64 k, .string nd2, .string sv2, .int .i64 a, .int .i64 b] := (Blk.sets5 (by omega) bE _ _ _ _ _)
  have bY_ : Blk (((((w4.setCell ⟨w.heap.size + 1, 0, none⟩ (.int .i64 k6)).setCell ⟨w.heap.size + 1, 1, none⟩ (.string nd7)).setCell ⟨w.heap.size + 1, 2, none⟩ (.string sv7)).setCell ⟨w.heap.size + 1, 3, none⟩ (.int .i64 a6)).setCell ⟨w.heap.size + 1, 4, none⟩ (.int .i64 b6)) (w.heap.size + 1) 23 #[.int .i64 k6, .string nd7, .string sv7, .int .i64 a6, .int .i64 b6] := (bY.set5 _ _ _ _ _)
  clear bE bY
  have bE := bE_
  clear bE_
  have bY := bY_
  clear bY_
  have hE5 := hE.below hb5
  clear hE4
  have hH5 := hH.below hb5
  clear hH4
  have hA5 := hA.below hb5
  clear hA4
  clear hb4
  generalize (((((w4.setCell ⟨w.heap.size + 1, 0, none⟩ (.int .i64 k6)).setCell ⟨w.heap.size + 1, 1, none⟩ (.string nd7)).setCell ⟨w.heap.size + 1, 2, none⟩ (.string sv7)).setCell ⟨w.heap.size + 1, 3, none⟩ (.int .i64 a6)).setCell ⟨w.heap.size + 1, 4, none⟩ (.int .i64 b6)) = w5 at *
  refine (Encode_any k nd2 sv2 a b w5 hE5 hH5 hA5 ha hbI).mono ?_
  rintro e w6 ⟨rfl, hc6⟩
  have hb6 := hb5.trans (hc6.mono hb5.size)
  replace bE := bE.here hc6
  replace bY := bY.here hc6
  have hE6 := hE5.below hc6
  clear hE5
  have hH6 := hH5.below hc6
  clear hH5
  have hA6 := hA5.below hc6
  clear hA5
  clear hc6 hb5
  rw [HL.out]
  obtain ⟨cY0, cY1, cY2, cY3, cY4⟩ := bY.five
  have fY0 := bY.frozen 0
  have fY1 := bY.frozen 1
  have fY2 := bY.frozen 2
  have fY3 := bY.frozen 3
  have fY4 := bY.frozen 4
  have lY := bY.lt
  go_wp2_with fail
  refine (Encode_any k6 nd7 sv7 a6 b6 w6 hE6 hH6 hA6 ha6 hb6_).mono ?_
  rintro e w7 ⟨rfl, hc7⟩
  have hb7 := hb6.trans (hc7.mono hb6.size)
  replace bE := bE.here hc7
  replace bY := bY.here hc7
  have hE7 := hE6.below hc7
  clear hE6
  have hH7 := hH6.below hc7
  clear hH6
  have hA7 := hA6.below hc7
  clear hA6
  clear hc7 hb6
  rw [HL2.out]
  clear cY0 cY1 cY2 cY3 cY4 fY0 fY1 fY2 fY3 fY4 lY
  obtain ⟨cE0, cE1, cE2, cE3, cE4⟩ := bE.five
  have fE0 := bE.frozen 0
  have fE1 := bE.frozen 1
  have fE2 := bE.frozen 2
  have fE3 := bE.frozen 3
  have fE4 := bE.frozen 4
  have lE := bE.lt
  obtain ⟨cY0, cY1, cY2, cY3, cY4⟩ := bY.five
  have fY0 := bY.frozen 0
  have fY1 := bY.frozen 1
  have fY2 := bY.frozen 2
  have fY3 := bY.frozen 3
  have fY4 := bY.frozen 4
  have lY := bY.lt
  go_wp2_with fail
  go_ret
  exact ⟨rfl, hb7⟩

set_option maxRecDepth 100000 in
set_option maxHeartbeats 4000000 in
theorem apart_long (k : Int) (nd sv nd2 sv2 : ByteArray) (a b : Int) (k6 : Int) (nd6 sv6 nd7 sv7 : ByteArray) (a6 b6 : Int) (s t : ByteArray) (w : World) (hE : EnvN w) (hH : HeadOK w) (hA : EnvE w) (ha : I64 a) (hbI : I64 b) (hn : nd.size ≤ maxLen) (hs9 : sv.size ≤ maxLen) (hc1 : c21 nd = nd2) (hc2 : c21 sv = sv2) (hn2 : nd2.size ≤ 4000000000) (hv2 : sv2.size ≤ 4000000000) (ha6 : I64 a6) (hb6_ : I64 b6) (hn6 : nd6.size ≤ maxLen) (hs6 : sv6.size ≤ maxLen) (hc6 : c21 nd6 = nd7) (hc7 : c21 sv6 = sv7) (hl : encN (nmO k nd2 sv2 a b) = (s, 0)) (hl2 : encN (nmO k6 nd7 sv7 a6 b6) = (t, 0)) (e1 : ∀ W : World, (binOp .eql 23 (.agg #[.int .i64 k, .string nd2, .string sv2, .int .i64 a, .int .i64 b]) (.agg #[.int .i64 k6, .string nd7, .string sv7, .int .i64 a6, .int .i64 b6])).run Tryz.prog W = .ok (.bool false) W) (hlt : t.size < s.size) (hsz : s.size ≤ 36540) (htz : t.size ≤ 36540) :
    Calls Tryz.prog 6 #[.agg #[.int .i64 k, .string nd, .string sv, .int .i64 a, .int .i64 b], .agg #[.int .i64 k6, .string nd6, .string sv6, .int .i64 a6, .int .i64 b6]] w fun e w' => e = .returned (.bool true) ∧ Below w.heap.size w w' := by
  have HC1 := Lib.hid hc1
  clear hc1
  have HC2 := Lib.hid hc2
  clear hc2
  have HC6 := Lib.hid hc6
  clear hc6
  have HC7 := Lib.hid hc7
  clear hc7
  have HL := Lib.hid hl
  clear hl
  have HL2 := Lib.hid hl2
  clear hl2
  have bY_ := Blk.new (w.alloc (.cells #[.int .i64 k, .string nd, .string sv, .int .i64 a, .int .i64 b] 23)) 23 #[.int .i64 k6, .string nd6, .string sv6, .int .i64 a6, .int .i64 b6]
  simp only [World.size_alloc] at bY_
  have bE : Blk ((w.alloc (.cells #[.int .i64 k, .string nd, .string sv, .int .i64 a, .int .i64 b] 23)).alloc (.cells #[.int .i64 k6, .string nd6, .string sv6, .int .i64 a6, .int .i64 b6] 23)) (w.heap.size) 23 #[.int .i64 k, .string nd, .string sv, .int .i64 a, .int .i64 b] := (Blk.new w _ _).alloc _
  have bY : Blk ((w.alloc (.cells #[.int .i64 k, .string nd, .string sv, .int .i64 a, .int .i64 b] 23)).alloc (.cells #[.int .i64 k6, .string nd6, .string sv6, .int .i64 a6, .int .i64 b6] 23)) (w.heap.size + 1) 23 #[.int .i64 k6, .string nd6, .string sv6, .int .i64 a6, .int .i64 b6] := bY_
  have hb : Below w.heap.size w ((w.alloc (.cells #[.int .i64 k, .string nd, .string sv, .int .i64 a, .int .i64 b] 23)).alloc (.cells #[.int .i64 k6, .string nd6, .string sv6, .int .i64 a6, .int .i64 b6] 23)) := (((Below.refl _ w).alloc (Nat.le_refl _) _).alloc (by simp; try omega) _)
  have hE0 := hE.below hb
  have hH0 := hH.below hb
  have hA0 := hA.below hb
  clear bY_
  go_enter Tryz.func6, Tryz.ntmps6
  go_wp2_with fail
  generalize ((w.alloc (.cells #[.int .i64 k, .string nd, .string sv, .int .i64 a, .int .i64 b] 23)).alloc (.cells #[.int .i64 k6, .string nd6, .string sv6, .int .i64 a6, .int .i64 b6] 23)) = w0 at *
  refine (shown_anyJ w0 hE0 hH0 hA0).mono ?_
  rintro e w1 ⟨rfl, hc1⟩
  have hb1 := hb.trans (hc1.mono hb.size)
  replace bE := bE.here hc1
  replace bY := bY.here hc1
  have hE1 := hE0.below hc1
  clear hE0
  have hH1 := hH0.below hc1
  clear hH0
  have hA1 := hA0.below hc1
  clear hA0
  clear hc1 hb
  obtain ⟨cE0, cE1, cE2, cE3, cE4⟩ := bE.five
  have fE0 := bE.frozen 0
  have fE1 := bE.frozen 1
  have fE2 := bE.frozen 2
  have fE3 := bE.frozen 3
  have fE4 := bE.frozen 4
  have lE := bE.lt
  go_wp2_with fail
  refine (lCut_any k nd sv a b w1 hn hs9).mono ?_
  rintro e w2 ⟨rfl, hc2⟩
  have hb2 := hb1.trans (hc2.mono hb1.size)
  replace bE := bE.here hc2
  replace bY := bY.here hc2
  have hE2 := hE1.below hc2
  clear hE1
  have hH2 := hH1.below hc2
  clear hH1
  have hA2 := hA1.below hc2
  clear hA1
  clear hc2 hb1
  rw [HC1.out, HC2.out]
  unfold nmV
  clear cE0 cE1 cE2 cE3 cE4 fE0 fE1 fE2 fE3 fE4 lE
  obtain ⟨cE0, cE1, cE2, cE3, cE4⟩ := bE.five
  have fE0 := bE.frozen 0
  have fE1 := bE.frozen 1
  have fE2 := bE.frozen 2
  have fE3 := bE.frozen 3
  have fE4 := bE.frozen 4
  have lE := bE.lt
  obtain ⟨cY0, cY1, cY2, cY3, cY4⟩ := bY.five
  have fY0 := bY.frozen 0
  have fY1 := bY.frozen 1
  have fY2 := bY.frozen 2
  have fY3 := bY.frozen 3
  have fY4 := bY.frozen 4
  have lY := bY.lt
  go_wp2_with fail
  clear cE0 cE1 cE2 cE3 cE4 fE0 fE1 fE2 fE3 fE4 lE
  clear cY0 cY1 cY2 cY3 cY4 fY0 fY1 fY2 fY3 fY4 lY
  have hb3 : Below w.heap.size w (((((w2.setCell ⟨w.heap.size, 0, none⟩ (.int .i64 k)).setCell ⟨w.heap.size, 1, none⟩ (.string nd2)).setCell ⟨w.heap.size, 2, none⟩ (.string sv2)).setCell ⟨w.heap.size, 3, none⟩ (.int .i64 a)).setCell ⟨w.heap.size, 4, none⟩ (.int .i64 b)) := (below_sets5 (B := w.heap.size) hb2 (by have := hb2.size; omega) _ _ _ _ _)
  have bE_ : Blk (((((w2.setCell ⟨w.heap.size, 0, none⟩ (.int .i64 k)).setCell ⟨w.heap.size, 1, none⟩ (.string nd2)).setCell ⟨w.heap.size, 2, none⟩ (.string sv2)).setCell ⟨w.heap.size, 3, none⟩ (.int .i64 a)).setCell ⟨w.heap.size, 4, none⟩ (.int .i64 b)) (w.heap.size) 23 #[.int .i64 k, .string nd2, .string sv2, .int .i64 a, .int .i64 b] := (bE.set5 _ _ _ _ _)
  have bY_ : Blk (((((w2.setCell ⟨w.heap.size, 0, none⟩ (.int .i64 k)).setCell ⟨w.heap.size, 1, none⟩ (.string nd2)).setCell ⟨w.heap.size, 2, none⟩ (.string sv2)).setCell ⟨w.heap.size, 3, none⟩ (.int .i64 a)).setCell ⟨w.heap.size, 4, none⟩ (.int .i64 b)) (w.heap.size + 1) 23 #[.int .i64 k6, .string nd6, .string sv6, .int .i64 a6, .int .i64 b6] := (Blk.sets5 (by omega) bY _ _ _ _ _)
  clear bE bY
  have bE := bE_
  clear bE_
  have bY := bY_
  clear bY_
  have hE3 := hE.below hb3
  clear hE2
  have hH3 := hH.below hb3
  clear hH2
  have hA3 := hA.below hb3
  clear hA2
  clear hb2
  generalize (((((w2.setCell ⟨w.heap.size, 0, none⟩ (.int .i64 k)).setCell ⟨w.heap.size, 1, none⟩ (.string nd2)).setCell ⟨w.heap.size, 2, none⟩ (.string sv2)).setCell ⟨w.heap.size, 3, none⟩ (.int .i64 a)).setCell ⟨w.heap.size, 4, none⟩ (.int .i64 b)) = w3 at *
  obtain ⟨cY0, cY1, cY2, cY3, cY4⟩ := bY.five
  have fY0 := bY.frozen 0
  have fY1 := bY.frozen 1
  have fY2 := bY.frozen 2
  have fY3 := bY.frozen 3
  have fY4 := bY.frozen 4
  have lY := bY.lt
  refine (lCut_any k6 nd6 sv6 a6 b6 w3 hn6 hs6).mono ?_
  rintro e w4 ⟨rfl, hc4⟩
  have hb4 := hb3.trans (hc4.mono hb3.size)
  replace bE := bE.here hc4
  replace bY := bY.here hc4
  have hE4 := hE3.below hc4
  clear hE3
  have hH4 := hH3.below hc4
  clear hH3
  have hA4 := hA3.below hc4
  clear hA3
  clear hc4 hb3
  rw [HC6.out, HC7.out]
  unfold nmV
  clear cY0 cY1 cY2 cY3 cY4 fY0 fY1 fY2 fY3 fY4 lY
  obtain ⟨cE0, cE1, cE2, cE3, cE4⟩ := bE.five
  have fE0 := bE.frozen 0
  have fE1 := bE.frozen 1
  have fE2 := bE.frozen 2
  have fE3 := bE.frozen 3
  have fE4 := bE.frozen 4
  have lE := bE.lt
  obtain ⟨cY0, cY1, cY2, cY3, cY4⟩ := bY.five
  have fY0 := bY.frozen 0
  have fY1 := bY.frozen 1
  have fY2 := bY.frozen 2
  have fY3 := bY.frozen 3
  have fY4 := bY.frozen 4
  have lY := bY.lt
  go_wp2_with fail
  clear cE0 cE1 cE2 cE3 cE4 fE0 fE1 fE2 fE3 fE4 lE
  clear cY0 cY1 cY2 cY3 cY4 fY0 fY1 fY2 fY3 fY4 lY
  have hb5 : Below w.heap.size w (((((w4.setCell ⟨w.heap.size + 1, 0, none⟩ (.int .i64 k6)).setCell ⟨w.heap.size + 1, 1, none⟩ (.string nd7)).setCell ⟨w.heap.size + 1, 2, none⟩ (.string sv7)).setCell ⟨w.heap.size + 1, 3, none⟩ (.int .i64 a6)).setCell ⟨w.heap.size + 1, 4, none⟩ (.int .i64 b6)) := (below_sets5 (B := w.heap.size + 1) hb4 (by have := hb4.size; omega) _ _ _ _ _)
  have bE_ : Blk (((((w4.setCell ⟨w.heap.size + 1, 0, none⟩ (.int .i64 k6)).setCell ⟨w.heap.size + 1, 1, none⟩ (.string nd7)).setCell ⟨w.heap.size + 1, 2, none⟩ (.string sv7)).setCell ⟨w.heap.size + 1, 3, none⟩ (.int .i64 a6)).setCell ⟨w.heap.size + 1, 4, none⟩ (.int .i64 b6)) (w.heap.size) 23 #[.int .i64 k, .string nd2, .string sv2, .int .i64 a, .int .i64 b] := (Blk.sets5 (by omega) bE _ _ _ _ _)
  have bY_ : Blk (((((w4.setCell ⟨w.heap.size + 1, 0, none⟩ (.int .i64 k6)).setCell ⟨w.heap.size + 1, 1, none⟩ (.string nd7)).setCell ⟨w.heap.size + 1, 2, none⟩ (.string sv7)).setCell ⟨w.heap.size + 1, 3, none⟩ (.int .i64 a6)).setCell ⟨w.heap.size + 1, 4, none⟩ (.int .i64 b6)) (w.heap.size + 1) 23 #[.int .i64 k6, .string nd7, .string sv7, .int .i64 a6, .int .i64 b6] := (bY.set5 _ _ _ _ _)
  clear bE bY
  have bE := bE_
  clear bE_
  have bY := bY_
  clear bY_
  have hE5 := hE.below hb5
  clear hE4
  have hH5 := hH.below hb5
  clear hH4
  have hA5 := hA.below hb5
  clear hA4
  clear hb4
  generalize (((((w4.setCell ⟨w.heap.size + 1, 0, none⟩ (.int .i64 k6)).setCell ⟨w.heap.size + 1, 1, none⟩ (.string nd7)).setCell ⟨w.heap.size + 1, 2, none⟩ (.string sv7)).setCell ⟨w.heap.size + 1, 3, none⟩ (.int .i64 a6)).setCell ⟨w.heap.size + 1, 4, none⟩ (.int .i64 b6)) = w5 at *
  refine (Encode_any k nd2 sv2 a b w5 hE5 hH5 hA5 ha hbI).mono ?_
  rintro e w6 ⟨rfl, hc6⟩
  have hb6 := hb5.trans (hc6.mono hb5.size)
  replace bE := bE.here hc6
  replace bY := bY.here hc6
  have hE6 := hE5.below hc6
  clear hE5
  have hH6 := hH5.below hc6
  clear hH5
  have hA6 := hA5.below hc6
  clear hA5
  clear hc6 hb5
  rw [HL.out]
  obtain ⟨cY0, cY1, cY2, cY3, cY4⟩ := bY.five
  have fY0 := bY.frozen 0
  have fY1 := bY.frozen 1
  have fY2 := bY.frozen 2
  have fY3 := bY.frozen 3
  have fY4 := bY.frozen 4
  have lY := bY.lt
  go_wp2_with fail
  refine (Encode_any k6 nd7 sv7 a6 b6 w6 hE6 hH6 hA6 ha6 hb6_).mono ?_
  rintro e w7 ⟨rfl, hc7⟩
  have hb7 := hb6.trans (hc7.mono hb6.size)
  replace bE := bE.here hc7
  replace bY := bY.here hc7
  have hE7 := hE6.below hc7
  clear hE6
  have hH7 := hH6.below hc7
  clear hH6
  have hA7 := hA6.below hc7
  clear hA6
  clear hc7 hb6
  rw [HL2.out]
  clear cY0 cY1 cY2 cY3 cY4 fY0 fY1 fY2 fY3 fY4 lY
  obtain ⟨cE0, cE1, cE2, cE3, cE4⟩ := bE.five
  have fE0 := bE.frozen 0
  have fE1 := bE.frozen 1
  have fE2 := bE.frozen 2
  have fE3 := bE.frozen 3
  have fE4 := bE.frozen 4
  have lE := bE.lt
  obtain ⟨cY0, cY1, cY2, cY3, cY4⟩ := bY.five
  have fY0 := bY.frozen 0
  have fY1 := bY.frozen 1
  have fY2 := bY.frozen 2
  have fY3 := bY.frozen 3
  have fY4 := bY.frozen 4
  have lY := bY.lt
  go_wp2_with fail
  go_ret
  exact ⟨rfl, hb7⟩

set_option maxRecDepth 100000 in
set_option maxHeartbeats 4000000 in
theorem apart_diff (k : Int) (nd sv nd2 sv2 : ByteArray) (a b : Int) (k6 : Int) (nd6 sv6 nd7 sv7 : ByteArray) (a6 b6 : Int) (s t : ByteArray) (w : World) (hE : EnvN w) (hH : HeadOK w) (hA : EnvE w) (ha : I64 a) (hbI : I64 b) (hn : nd.size ≤ maxLen) (hs9 : sv.size ≤ maxLen) (hc1 : c21 nd = nd2) (hc2 : c21 sv = sv2) (hn2 : nd2.size ≤ 4000000000) (hv2 : sv2.size ≤ 4000000000) (ha6 : I64 a6) (hb6_ : I64 b6) (hn6 : nd6.size ≤ maxLen) (hs6 : sv6.size ≤ maxLen) (hc6 : c21 nd6 = nd7) (hc7 : c21 sv6 = sv7) (hl : encN (nmO k nd2 sv2 a b) = (s, 0)) (hl2 : encN (nmO k6 nd7 sv7 a6 b6) = (t, 0)) (e1 : ∀ W : World, (binOp .eql 23 (.agg #[.int .i64 k, .string nd2, .string sv2, .int .i64 a, .int .i64 b]) (.agg #[.int .i64 k6, .string nd7, .string sv7, .int .i64 a6, .int .i64 b6])).run Tryz.prog W = .ok (.bool false) W) (hle : s.size ≤ t.size) (x : ByteArray) (hx : t.extract 0 s.size = x) (hne : (x.toList == s.toList) = false) (hsz : s.size ≤ 36540) (htz : t.size ≤ 36540) :
    Calls Tryz.prog 6 #[.agg #[.int .i64 k, .string nd, .string sv, .int .i64 a, .int .i64 b], .agg #[.int .i64 k6, .string nd6, .string sv6, .int .i64 a6, .int .i64 b6]] w fun e w' => e = .returned (.bool true) ∧ Below w.heap.size w w' := by
  have HC1 := Lib.hid hc1
  clear hc1
  have HC2 := Lib.hid hc2
  clear hc2
  have HC6 := Lib.hid hc6
  clear hc6
  have HC7 := Lib.hid hc7
  clear hc7
  have HL := Lib.hid hl
  clear hl
  have HL2 := Lib.hid hl2
  clear hl2
  have HX := Lib.hid hx
  clear hx
  have bY_ := Blk.new (w.alloc (.cells #[.int .i64 k, .string nd, .string sv, .int .i64 a, .int .i64 b] 23)) 23 #[.int .i64 k6, .string nd6, .string sv6, .int .i64 a6, .int .i64 b6]
  simp only [World.size_alloc] at bY_
  have bE : Blk ((w.alloc (.cells #[.int .i64 k, .string nd, .string sv, .int .i64 a, .int .i64 b] 23)).alloc (.cells #[.int .i64 k6, .string nd6, .string sv6, .int .i64 a6, .int .i64 b6] 23)) (w.heap.size) 23 #[.int .i64 k, .string nd, .string sv, .int .i64 a, .int .i64 b] := (Blk.new w _ _).alloc _
  have bY : Blk ((w.alloc (.cells #[.int .i64 k, .string nd, .string sv, .int .i64 a, .int .i64 b] 23)).alloc (.cells #[.int .i64 k6, .string nd6, .string sv6, .int .i64 a6, .int .i64 b6] 23)) (w.heap.size + 1) 23 #[.int .i64 k6, .string nd6, .string sv6, .int .i64 a6, .int .i64 b6] := bY_
  have hb : Below w.heap.size w ((w.alloc (.cells #[.int .i64 k, .string nd, .string sv, .int .i64 a, .int .i64 b] 23)).alloc (.cells #[.int .i64 k6, .string nd6, .string sv6, .int .i64 a6, .int .i64 b6] 23)) := (((Below.refl _ w).alloc (Nat.le_refl _) _).alloc (by simp; try omega) _)
  have hE0 := hE.below hb
  have hH0 := hH.below hb
  have hA0 := hA.below hb
  clear bY_
  go_enter Tryz.func6, Tryz.ntmps6
  go_wp2_with fail
  generalize ((w.alloc (.cells #[.int .i64 k, .string nd, .string sv, .int .i64 a, .int .i64 b] 23)).alloc (.cells #[.int .i64 k6, .string nd6, .string sv6, .int .i64 a6, .int .i64 b6] 23)) = w0 at *
  refine (shown_anyJ w0 hE0 hH0 hA0).mono ?_
  rintro e w1 ⟨rfl, hc1⟩
  have hb1 := hb.trans (hc1.mono hb.size)
  replace bE := bE.here hc1
  replace bY := bY.here hc1
  have hE1 := hE0.below hc1
  clear hE0
  have hH1 := hH0.below hc1
  clear hH0
  have hA1 := hA0.below hc1
  clear hA0
  clear hc1 hb
  obtain ⟨cE0, cE1, cE2, cE3, cE4⟩ := bE.five
  have fE0 := bE.frozen 0
  have fE1 := bE.frozen 1
  have fE2 := bE.frozen 2
  have fE3 := bE.frozen 3
  have fE4 := bE.frozen 4
  have lE := bE.lt
  go_wp2_with fail
  refine (lCut_any k nd sv a b w1 hn hs9).mono ?_
  rintro e w2 ⟨rfl, hc2⟩
  have hb2 := hb1.trans (hc2.mono hb1.size)
  replace bE := bE.here hc2
  replace bY := bY.here hc2
  have hE2 := hE1.below hc2
  clear hE1
  have hH2 := hH1.below hc2
  clear hH1
  have hA2 := hA1.below hc2
  clear hA1
  clear hc2 hb1
  rw [HC1.out, HC2.out]
  unfold nmV
  clear cE0 cE1 cE2 cE3 cE4 fE0 fE1 fE2 fE3 fE4 lE
  obtain ⟨cE0, cE1, cE2, cE3, cE4⟩ := bE.five
  have fE0 := bE.frozen 0
  have fE1 := bE.frozen 1
  have fE2 := bE.frozen 2
  have fE3 := bE.frozen 3
  have fE4 := bE.frozen 4
  have lE := bE.lt
  obtain ⟨cY0, cY1, cY2, cY3, cY4⟩ := bY.five
  have fY0 := bY.frozen 0
  have fY1 := bY.frozen 1
  have fY2 := bY.frozen 2
  have fY3 := bY.frozen 3
  have fY4 := bY.frozen 4
  have lY := bY.lt
  go_wp2_with fail
  clear cE0 cE1 cE2 cE3 cE4 fE0 fE1 fE2 fE3 fE4 lE
  clear cY0 cY1 cY2 cY3 cY4 fY0 fY1 fY2 fY3 fY4 lY
  have hb3 : Below w.heap.size w (((((w2.setCell ⟨w.heap.size, 0, none⟩ (.int .i64 k)).setCell ⟨w.heap.size, 1, none⟩ (.string nd2)).setCell ⟨w.heap.size, 2, none⟩ (.string sv2)).setCell ⟨w.heap.size, 3, none⟩ (.int .i64 a)).setCell ⟨w.heap.size, 4, none⟩ (.int .i64 b)) := (below_sets5 (B := w.heap.size) hb2 (by have := hb2.size; omega) _ _ _ _ _)
  have bE_ : Blk (((((w2.setCell ⟨w.heap.size, 0, none⟩ (.int .i64 k)).setCell ⟨w.heap.size, 1, none⟩ (.string nd2)).setCell ⟨w.heap.size, 2, none⟩ (.string sv2)).setCell ⟨w.heap.size, 3, none⟩ (.int .i64 a)).setCell ⟨w.heap.size, 4, none⟩ (.int .i64 b)) (w.heap.size) 23 #[.int .i64 k, .string nd2, .string sv2, .int .i64 a, .int .i64 b] := (bE.set5 _ _ _ _ _)
  have bY_ : Blk (((((w2.setCell ⟨w.heap.size, 0, none⟩ (.int .i64 k)).setCell ⟨w.heap.size, 1, none⟩ (.string nd2)).setCell ⟨w.heap.size, 2, none⟩ (.string sv2)).setCell ⟨w.heap.size, 3, none⟩ (.int .i64 a)).setCell ⟨w.heap.size, 4, none⟩ (.int .i64 b)) (w.heap.size + 1) 23 #[.int .i64 k6, .string nd6, .string sv6, .int .i64 a6, .int .i64 b6] := (Blk.sets5 (by omega) bY _ _ _ _ _)
  clear bE bY
  have bE := bE_
  clear bE_
  have bY := bY_
  clear bY_
  have hE3 := hE.below hb3
  clear hE2
  have hH3 := hH.below hb3
  clear hH2
  have hA3 := hA.below hb3
  clear hA2
  clear hb2
  generalize (((((w2.setCell ⟨w.heap.size, 0, none⟩ (.int .i64 k)).setCell ⟨w.heap.size, 1, none⟩ (.string nd2)).setCell ⟨w.heap.size, 2, none⟩ (.string sv2)).setCell ⟨w.heap.size, 3, none⟩ (.int .i64 a)).setCell ⟨w.heap.size, 4, none⟩ (.int .i64 b)) = w3 at *
  obtain ⟨cY0, cY1, cY2, cY3, cY4⟩ := bY.five
  have fY0 := bY.frozen 0
  have fY1 := bY.frozen 1
  have fY2 := bY.frozen 2
  have fY3 := bY.frozen 3
  have fY4 := bY.frozen 4
  have lY := bY.lt
  refine (lCut_any k6 nd6 sv6 a6 b6 w3 hn6 hs6).mono ?_
  rintro e w4 ⟨rfl, hc4⟩
  have hb4 := hb3.trans (hc4.mono hb3.size)
  replace bE := bE.here hc4
  replace bY := bY.here hc4
  have hE4 := hE3.below hc4
  clear hE3
  have hH4 := hH3.below hc4
  clear hH3
  have hA4 := hA3.below hc4
  clear hA3
  clear hc4 hb3
  rw [HC6.out, HC7.out]
  unfold nmV
  clear cY0 cY1 cY2 cY3 cY4 fY0 fY1 fY2 fY3 fY4 lY
  obtain ⟨cE0, cE1, cE2, cE3, cE4⟩ := bE.five
  have fE0 := bE.frozen 0
  have fE1 := bE.frozen 1
  have fE2 := bE.frozen 2
  have fE3 := bE.frozen 3
  have fE4 := bE.frozen 4
  have lE := bE.lt
  obtain ⟨cY0, cY1, cY2, cY3, cY4⟩ := bY.five
  have fY0 := bY.frozen 0
  have fY1 := bY.frozen 1
  have fY2 := bY.frozen 2
  have fY3 := bY.frozen 3
  have fY4 := bY.frozen 4
  have lY := bY.lt
  go_wp2_with fail
  clear cE0 cE1 cE2 cE3 cE4 fE0 fE1 fE2 fE3 fE4 lE
  clear cY0 cY1 cY2 cY3 cY4 fY0 fY1 fY2 fY3 fY4 lY
  have hb5 : Below w.heap.size w (((((w4.setCell ⟨w.heap.size + 1, 0, none⟩ (.int .i64 k6)).setCell ⟨w.heap.size + 1, 1, none⟩ (.string nd7)).setCell ⟨w.heap.size + 1, 2, none⟩ (.string sv7)).setCell ⟨w.heap.size + 1, 3, none⟩ (.int .i64 a6)).setCell ⟨w.heap.size + 1, 4, none⟩ (.int .i64 b6)) := (below_sets5 (B := w.heap.size + 1) hb4 (by have := hb4.size; omega) _ _ _ _ _)
  have bE_ : Blk (((((w4.setCell ⟨w.heap.size + 1, 0, none⟩ (.int .i64 k6)).setCell ⟨w.heap.size + 1, 1, none⟩ (.string nd7)).setCell ⟨w.heap.size + 1, 2, none⟩ (.string sv7)).setCell ⟨w.heap.size + 1, 3, none⟩ (.int .i64 a6)).setCell ⟨w.heap.size + 1, 4, none⟩ (.int .i64 b6)) (w.heap.size) 23 #[.int .i64 k, .string nd2, .string sv2, .int .i64 a, .int .i64 b] := (Blk.sets5 (by omega) bE _ _ _ _ _)
  have bY_ : Blk (((((w4.setCell ⟨w.heap.size + 1, 0, none⟩ (.int .i64 k6)).setCell ⟨w.heap.size + 1, 1, none⟩ (.string nd7)).setCell ⟨w.heap.size + 1, 2, none⟩ (.string sv7)).setCell ⟨w.heap.size + 1, 3, none⟩ (.int .i64 a6)).setCell ⟨w.heap.size + 1, 4, none⟩ (.int .i64 b6)) (w.heap.size + 1) 23 #[.int .i64 k6, .string nd7, .string sv7, .int .i64 a6, .int .i64 b6] := (bY.set5 _ _ _ _ _)
  clear bE bY
  have bE := bE_
  clear bE_
  have bY := bY_
  clear bY_
  have hE5 := hE.below hb5
  clear hE4
  have hH5 := hH.below hb5
  clear hH4
  have hA5 := hA.below hb5
  clear hA4
  clear hb4
  generalize (((((w4.setCell ⟨w.heap.size + 1, 0, none⟩ (.int .i64 k6)).setCell ⟨w.heap.size + 1, 1, none⟩ (.string nd7)).setCell ⟨w.heap.size + 1, 2, none⟩ (.string sv7)).setCell ⟨w.heap.size + 1, 3, none⟩ (.int .i64 a6)).setCell ⟨w.heap.size + 1, 4, none⟩ (.int .i64 b6)) = w5 at *
  refine (Encode_any k nd2 sv2 a b w5 hE5 hH5 hA5 ha hbI).mono ?_
  rintro e w6 ⟨rfl, hc6⟩
  have hb6 := hb5.trans (hc6.mono hb5.size)
  replace bE := bE.here hc6
  replace bY := bY.here hc6
  have hE6 := hE5.below hc6
  clear hE5
  have hH6 := hH5.below hc6
  clear hH5
  have hA6 := hA5.below hc6
  clear hA5
  clear hc6 hb5
  rw [HL.out]
  obtain ⟨cY0, cY1, cY2, cY3, cY4⟩ := bY.five
  have fY0 := bY.frozen 0
  have fY1 := bY.frozen 1
  have fY2 := bY.frozen 2
  have fY3 := bY.frozen 3
  have fY4 := bY.frozen 4
  have lY := bY.lt
  go_wp2_with fail
  refine (Encode_any k6 nd7 sv7 a6 b6 w6 hE6 hH6 hA6 ha6 hb6_).mono ?_
  rintro e w7 ⟨rfl, hc7⟩
  have hb7 := hb6.trans (hc7.mono hb6.size)
  replace bE := bE.here hc7
  replace bY := bY.here hc7
  have hE7 := hE6.below hc7
  clear hE6
  have hH7 := hH6.below hc7
  clear hH6
  have hA7 := hA6.below hc7
  clear hA6
  clear hc7 hb6
  rw [HL2.out]
  clear cY0 cY1 cY2 cY3 cY4 fY0 fY1 fY2 fY3 fY4 lY
  obtain ⟨cE0, cE1, cE2, cE3, cE4⟩ := bE.five
  have fE0 := bE.frozen 0
  have fE1 := bE.frozen 1
  have fE2 := bE.frozen 2
  have fE3 := bE.frozen 3
  have fE4 := bE.frozen 4
  have lE := bE.lt
  obtain ⟨cY0, cY1, cY2, cY3, cY4⟩ := bY.five
  have fY0 := bY.frozen 0
  have fY1 := bY.frozen 1
  have fY2 := bY.frozen 2
  have fY3 := bY.frozen 3
  have fY4 := bY.frozen 4
  have lY := bY.lt
  have hx := HX.out
  clear HX
  go_wp2_with fail
  go_ret
  exact ⟨rfl, hb7⟩

theorem apart_walkJ (k : Int) (nd sv : ByteArray) (a b : Int) (k6 : Int) (nd6 sv6 : ByteArray) (a6 b6 : Int) (w : World) (hE : EnvN w) (hH : HeadOK w) (hA : EnvE w) (ha : I64 a) (hbI : I64 b) (hn : nd.size ≤ maxLen) (hs9 : sv.size ≤ maxLen) (ha6 : I64 a6) (hb6 : I64 b6) (hn6 : nd6.size ≤ maxLen) (hs6 : sv6.size ≤ maxLen) :
    Calls Tryz.prog 6 #[nmV k nd sv a b, nmV k6 nd6 sv6 a6 b6] w fun e w' => e = .returned (.bool true) ∧ Below w.heap.size w w' := by
  have l1 := c21_le nd
  have l2 := c21_le sv
  have z1 := encN_small (nmO k (c21 nd) (c21 sv) a b)
  have z2 := encN_small (nmO k6 (c21 nd6) (c21 sv6) a6 b6)
  have w1 : ∀ o, ((encN o).2 == 0) = true ∧ ((encN o).2 != 0) = false ∨ ((encN o).2 == 0) = false ∧ ((encN o).2 != 0) = true ∧ (encN o).1 = ⟨#[]⟩ := fun o => by
    cases hr : nmR o with
    | false => rw [encN_no hr]; exact .inr ⟨rfl, rfl, rfl⟩
    | true => rw [encN_yes hr]; exact .inl ⟨rfl, rfl⟩
  cases hr : nmR (nmO k (c21 nd) (c21 sv) a b) with
  | false => exact apart_no k nd sv _ _ a b k6 nd6 sv6 _ _ a6 b6 (encN (nmO k (c21 nd) (c21 sv) a b)).1 (encN (nmO k6 (c21 nd6) (c21 sv6) a6 b6)).1 w hE hH hA ha hbI hn hs9 rfl rfl (by omega) (by omega) ha6 hb6 hn6 hs6 rfl rfl (encN (nmO k (c21 nd) (c21 sv) a b)).2 (encN (nmO k6 (c21 nd6) (c21 sv6) a6 b6)).2 rfl rfl (w1 _) (w1 _) (.inl (by rw [encN_no hr]; rfl)) z1 z2
  | true =>
    cases hr2 : nmR (nmO k6 (c21 nd6) (c21 sv6) a6 b6) with
    | false => exact apart_no k nd sv _ _ a b k6 nd6 sv6 _ _ a6 b6 (encN (nmO k (c21 nd) (c21 sv) a b)).1 (encN (nmO k6 (c21 nd6) (c21 sv6) a6 b6)).1 w hE hH hA ha hbI hn hs9 rfl rfl (by omega) (by omega) ha6 hb6 hn6 hs6 rfl rfl (encN (nmO k (c21 nd) (c21 sv) a b)).2 (encN (nmO k6 (c21 nd6) (c21 sv6) a6 b6)).2 rfl rfl (w1 _) (w1 _) (.inr (by rw [encN_no hr2]; rfl)) z1 z2
    | true =>
      rw [encN_yes hr] at z1
      rw [encN_yes hr2] at z2
      by_cases heq : k = k6 ∧ c21 nd = c21 nd6 ∧ c21 sv = c21 sv6 ∧ a = a6 ∧ b = b6
      · have ho : nmO k6 (c21 nd6) (c21 sv6) a6 b6 = nmO k (c21 nd) (c21 sv) a b := by obtain ⟨e1, e2, e3, e4, e5⟩ := heq; rw [e1, e2, e3, e4, e5]
        rw [ho] at hr2 z2
        exact apart_same k nd sv _ _ a b k6 nd6 sv6 _ _ a6 b6 _ _ w hE hH hA ha hbI hn hs9 rfl rfl (by omega) (by omega) ha6 hb6 hn6 hs6 rfl rfl (encN_yes hr) (by rw [ho]; exact encN_yes hr) (fun W => by rw [nm_eql, nmE_iff.2 heq]) (by apply ByteArray.ext; simp) z1 z2
      · have ef : nmE k (c21 nd) (c21 sv) a b k6 (c21 nd6) (c21 sv6) a6 b6 = false := by
          cases h : nmE k (c21 nd) (c21 sv) a b k6 (c21 nd6) (c21 sv6) a6 b6 with
          | false => rfl
          | true => exact absurd (nmE_iff.1 h) heq
        have e1 : ∀ W : World, (binOp .eql 23 (.agg #[.int .i64 k, .string (c21 nd), .string (c21 sv), .int .i64 a, .int .i64 b]) (.agg #[.int .i64 k6, .string (c21 nd6), .string (c21 sv6), .int .i64 a6, .int .i64 b6])).run Tryz.prog W = .ok (.bool false) W := fun W => by rw [nm_eql, ef]
        by_cases hle : (⟨(encI (itmN (nmO k (c21 nd) (c21 sv) a b))).toArray⟩ : ByteArray).size ≤ (⟨(encI (itmN (nmO k6 (c21 nd6) (c21 sv6) a6 b6))).toArray⟩ : ByteArray).size
        · refine apart_diff k nd sv _ _ a b k6 nd6 sv6 _ _ a6 b6 _ _ w hE hH hA ha hbI hn hs9 rfl rfl (by omega) (by omega) ha6 hb6 hn6 hs6 rfl rfl (encN_yes hr) (encN_yes hr2) e1 hle _ rfl ?_ z1 z2
          rw [str_eqb, decide_eq_false_iff_not]
          intro hq
          refine absurd (itmN_inj hr hr2 (encI_begins (itm_right hr) (itm_right hr2) ?_)) (fun e => heq ?_)
          · have e2 := extract_drop (⟨(encI (itmN (nmO k6 (c21 nd6) (c21 sv6) a6 b6))).toArray⟩ : ByteArray) 0 (⟨(encI (itmN (nmO k (c21 nd) (c21 sv) a b))).toArray⟩ : ByteArray).size
            rw [Nat.zero_add, List.drop_zero] at e2
            rw [hq] at e2
            simp only [List.toList_toArray] at e2
            rw [e2]
            exact List.take_prefix _ _
          · simp only [nmO, Nm.mk.injEq] at e
            exact ⟨e.1, ba_ext e.2.1, ba_ext e.2.2.1, e.2.2.2.1, e.2.2.2.2⟩
        · exact apart_long k nd sv _ _ a b k6 nd6 sv6 _ _ a6 b6 _ _ w hE hH hA ha hbI hn hs9 rfl rfl (by omega) (by omega) ha6 hb6 hn6 hs6 rfl rfl (encN_yes hr) (encN_yes hr2) e1 (by omega) z1 z2

end Go.Proofs.YtmbmolgkccjedaaGreatDoor
