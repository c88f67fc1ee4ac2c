/- The walk of Eid7Codes. -/
import Derived.Test.YtmbmolgkccjedaaGreatDoorM29
set_option linter.unusedVariables false
set_option linter.unusedSimpArgs false
namespace Go.Proofs.YtmbmolgkccjedaaGreatDoor
open Go.RowKit
attribute [local go_sem ↓] Go.wp_at_zero Go.wp_at_succ

set_option maxRecDepth 100000 in
set_option maxHeartbeats 4000000 in
theorem codes_ofJ (k : Int) (nd sv nd2 sv2 : ByteArray) (a b : Int) (s s2 t : ByteArray) (at0 d u r : Int) (o : Nm) (w : World) (hE : EnvN w) (hH : HeadOK w) (hA : EnvE w) (ha : I64 a) (hbI : I64 b) (hn : nd.size ≤ maxLen) (hs9 : sv.size ≤ maxLen) (hc1 : c21 nd = nd2) (hc2 : c21 sv = sv2) (hn2 : nd2.size ≤ 4000000000) (hv2 : sv2.size ≤ 4000000000) (hs : s.size ≤ maxLen) (hc3 : c300 s = s2) (hs2 : s2.size ≤ 1000000) (hl : encN (nmO k nd2 sv2 a b) = (t, u)) (hd : decN s2 at0 = (o, d, r)) :
    Calls Tryz.prog 4 #[.agg #[.int .i64 k, .string nd, .string sv, .int .i64 a, .int .i64 b], .string s, .int .i64 at0] w fun e w' => e = .returned (.bool true) ∧ Below w.heap.size w w' := by
  have HC1 := Lib.hid hc1
  clear hc1
  have HC2 := Lib.hid hc2
  clear hc2
  have HC3 := Lib.hid hc3
  clear hc3
  have HL := Lib.hid hl
  clear hl
  have HD := Lib.hid hd
  clear hd
  have e1 : ∀ W : World, (binOp .eql 23 (.agg #[.int .i64 o.k, .string ⟨o.node.toArray⟩, .string ⟨o.serv.toArray⟩, .int .i64 o.a, .int .i64 o.b]) (.agg #[.int .i64 o.k, .string ⟨o.node.toArray⟩, .string ⟨o.serv.toArray⟩, .int .i64 o.a, .int .i64 o.b])).run Tryz.prog W = .ok (.bool true) W := nm_self _ _ _ _ _ _ rfl
  have bE : Blk (w.alloc (.cells #[.int .i64 k, .string nd, .string sv, .int .i64 a, .int .i64 b] 23)) (w.heap.size) 23 #[.int .i64 k, .string nd, .string sv, .int .i64 a, .int .i64 b] := Blk.new w _ _
  have hb : Below w.heap.size w (w.alloc (.cells #[.int .i64 k, .string nd, .string sv, .int .i64 a, .int .i64 b] 23)) := ((Below.refl _ w).alloc (Nat.le_refl _) _)
  have hE0 := hE.below hb
  have hH0 := hH.below hb
  have hA0 := hA.below hb
  go_enter Tryz.func4, Tryz.ntmps4
  go_wp2_with fail
  generalize (w.alloc (.cells #[.int .i64 k, .string nd, .string sv, .int .i64 a, .int .i64 b] 23)) = w0 at *
  refine (shown_anyJ w0 hE0 hH0 hA0).mono ?_
  rintro e w1 ⟨rfl, hc1⟩
  have hb1 := hb.trans (hc1.mono hb.size)
  replace bE := bE.here hc1
  have hE1 := hE0.below hc1
  clear hE0
  have hH1 := hH0.below hc1
  clear hH0
  have hA1 := hA0.below hc1
  clear hA0
  clear hc1 hb
  obtain ⟨cE0, cE1, cE2, cE3, cE4⟩ := bE.five
  have fE0 := bE.frozen 0
  have fE1 := bE.frozen 1
  have fE2 := bE.frozen 2
  have fE3 := bE.frozen 3
  have fE4 := bE.frozen 4
  have lE := bE.lt
  go_wp2_with fail
  refine (lCut_any k nd sv a b w1 hn hs9).mono ?_
  rintro e w2 ⟨rfl, hc2⟩
  have hb2 := hb1.trans (hc2.mono hb1.size)
  replace bE := bE.here hc2
  have hE2 := hE1.below hc2
  clear hE1
  have hH2 := hH1.below hc2
  clear hH1
  have hA2 := hA1.below hc2
  clear hA1
  clear hc2 hb1
  rw [HC1.out, HC2.out]
  unfold nmV
  clear cE0 cE1 cE2 cE3 cE4 fE0 fE1 fE2 fE3 fE4 lE
  obtain ⟨cE0, cE1, cE2, cE3, cE4⟩ := bE.five
  have fE0 := bE.frozen 0
  have fE1 := bE.frozen 1
  have fE2 := bE.frozen 2
  have fE3 := bE.frozen 3
  have fE4 := bE.frozen 4
  have lE := bE.lt
  go_wp2_with fail
  clear cE0 cE1 cE2 cE3 cE4 fE0 fE1 fE2 fE3 fE4 lE
  have hb3 : Below w.heap.size w (((((w2.setCell ⟨w.heap.size, 0, none⟩ (.int .i64 k)).setCell ⟨w.heap.size, 1, none⟩ (.string nd2)).setCell ⟨w.heap.size, 2, none⟩ (.string sv2)).setCell ⟨w.heap.size, 3, none⟩ (.int .i64 a)).setCell ⟨w.heap.size, 4, none⟩ (.int .i64 b)) := (below_sets5 (B := w.heap.size) hb2 (by have := hb2.size; omega) _ _ _ _ _)
  have bE_ : Blk (((((w2.setCell ⟨w.heap.size, 0, none⟩ (.int .i64 k)).setCell ⟨w.heap.size, 1, none⟩ (.string nd2)).setCell ⟨w.heap.size, 2, none⟩ (.string sv2)).setCell ⟨w.heap.size, 3, none⟩ (.int .i64 a)).setCell ⟨w.heap.size, 4, none⟩ (.int .i64 b)) (w.heap.size) 23 #[.int .i64 k, .string nd2, .string sv2, .int .i64 a, .int .i64 b] := (bE.set5 _ _ _ _ _)
  clear bE
  have bE := bE_
  clear bE_
  have hE3 := hE.below hb3
  clear hE2
  have hH3 := hH.below hb3
  clear hH2
  have hA3 := hA.below hb3
  clear hA2
  clear hb2
  generalize (((((w2.setCell ⟨w.heap.size, 0, none⟩ (.int .i64 k)).setCell ⟨w.heap.size, 1, none⟩ (.string nd2)).setCell ⟨w.heap.size, 2, none⟩ (.string sv2)).setCell ⟨w.heap.size, 3, none⟩ (.int .i64 a)).setCell ⟨w.heap.size, 4, none⟩ (.int .i64 b)) = w3 at *
  refine (lcut_anyJ s _ hs).mono ?_
  rintro e w' ⟨rfl, rfl⟩
  rw [HC3.out]
  obtain ⟨cE0, cE1, cE2, cE3, cE4⟩ := bE.five
  have fE0 := bE.frozen 0
  have fE1 := bE.frozen 1
  have fE2 := bE.frozen 2
  have fE3 := bE.frozen 3
  have fE4 := bE.frozen 4
  have lE := bE.lt
  go_wp2_with fail
  refine (Encode_any k nd2 sv2 a b w3 hE3 hH3 hA3 ha hbI).mono ?_
  rintro e w4 ⟨rfl, hc4⟩
  have hb4 := hb3.trans (hc4.mono hb3.size)
  replace bE := bE.here hc4
  have hE4 := hE3.below hc4
  clear hE3
  have hH4 := hH3.below hc4
  clear hH3
  have hA4 := hA3.below hc4
  clear hA3
  clear hc4 hb3
  rw [HL.out]
  clear cE0 cE1 cE2 cE3 cE4 fE0 fE1 fE2 fE3 fE4 lE
  obtain ⟨cE0, cE1, cE2, cE3, cE4⟩ := bE.five
  have fE0 := bE.frozen 0
  have fE1 := bE.frozen 1
  have fE2 := bE.frozen 2
  have fE3 := bE.frozen 3
  have fE4 := bE.frozen 4
  have lE := bE.lt
  go_wp2_with fail
  refine (rjEncode_any k nd2 sv2 a b w4 hn2 hv2 ha hbI).mono ?_
  rintro e w5 ⟨rfl, hc5⟩
  have hb5 := hb4.trans (hc5.mono hb4.size)
  replace bE := bE.here hc5
  have hE5 := hE4.below hc5
  clear hE4
  have hH5 := hH4.below hc5
  clear hH4
  have hA5 := hA4.below hc5
  clear hA4
  clear hc5 hb4
  rw [HL.out]
  clear cE0 cE1 cE2 cE3 cE4 fE0 fE1 fE2 fE3 fE4 lE
  go_wp2_with fail
  refine (Decode_any s2 at0 w5 hE5 hH5 hA5 hs2).mono ?_
  rintro e w6 ⟨rfl, hc6⟩
  have hb6 := hb5.trans (hc6.mono hb5.size)
  replace bE := bE.here hc6
  have hE6 := hE5.below hc6
  clear hE5
  have hH6 := hH5.below hc6
  clear hH5
  have hA6 := hA5.below hc6
  clear hA5
  clear hc6 hb5
  rw [HD.out]
  simp only [nmW, nmV]
  have hc7 : Below w6.heap.size w6 (w6.alloc (.cells #[.int .i64 o.k, .string ⟨o.node.toArray⟩, .string ⟨o.serv.toArray⟩, .int .i64 o.a, .int .i64 o.b] 23)) := (Below.refl _ _).alloc (Nat.le_refl _) _
  have bC : Blk (w6.alloc (.cells #[.int .i64 o.k, .string ⟨o.node.toArray⟩, .string ⟨o.serv.toArray⟩, .int .i64 o.a, .int .i64 o.b] 23)) w6.heap.size 23 #[.int .i64 o.k, .string ⟨o.node.toArray⟩, .string ⟨o.serv.toArray⟩, .int .i64 o.a, .int .i64 o.b] := Blk.new _ _ _
  have hb7 := hb6.trans (hc7.mono hb6.size)
  replace bE := bE.here hc7
  have hE7 := hE6.below hc7
  clear hE6
  have hH7 := hH6.below hc7
  clear hH6
  have hA7 := hA6.below hc7
  clear hA6
  clear hc7 hb6
  go_wp2_with fail
  generalize (w6.alloc (.cells #[.int .i64 o.k, .string ⟨o.node.toArray⟩, .string ⟨o.serv.toArray⟩, .int .i64 o.a, .int .i64 o.b] 23)) = w7 at *
  refine (rjDecode_any s2 at0 w7 hs2).mono ?_
  rintro e w8 ⟨rfl, hc8⟩
  have hb8 := hb7.trans (hc8.mono hb7.size)
  replace bE := bE.here hc8
  replace bC := bC.here hc8
  have hE8 := hE7.below hc8
  clear hE7
  have hH8 := hH7.below hc8
  clear hH7
  have hA8 := hA7.below hc8
  clear hA7
  clear hc8 hb7
  rw [HD.out]
  simp only [nmW, nmV]
  have hc9 : Below w8.heap.size w8 (w8.alloc (.cells #[.int .i64 o.k, .string ⟨o.node.toArray⟩, .string ⟨o.serv.toArray⟩, .int .i64 o.a, .int .i64 o.b] 23)) := (Below.refl _ _).alloc (Nat.le_refl _) _
  have bD : Blk (w8.alloc (.cells #[.int .i64 o.k, .string ⟨o.node.toArray⟩, .string ⟨o.serv.toArray⟩, .int .i64 o.a, .int .i64 o.b] 23)) w8.heap.size 23 #[.int .i64 o.k, .string ⟨o.node.toArray⟩, .string ⟨o.serv.toArray⟩, .int .i64 o.a, .int .i64 o.b] := Blk.new _ _ _
  have hb9 := hb8.trans (hc9.mono hb8.size)
  replace bE := bE.here hc9
  replace bC := bC.here hc9
  have hE9 := hE8.below hc9
  clear hE8
  have hH9 := hH8.below hc9
  clear hH8
  have hA9 := hA8.below hc9
  clear hA8
  clear hc9 hb8
  obtain ⟨cC0, cC1, cC2, cC3, cC4⟩ := bC.five
  have fC0 := bC.frozen 0
  have fC1 := bC.frozen 1
  have fC2 := bC.frozen 2
  have fC3 := bC.frozen 3
  have fC4 := bC.frozen 4
  have lC := bC.lt
  obtain ⟨cD0, cD1, cD2, cD3, cD4⟩ := bD.five
  have fD0 := bD.frozen 0
  have fD1 := bD.frozen 1
  have fD2 := bD.frozen 2
  have fD3 := bD.frozen 3
  have fD4 := bD.frozen 4
  have lD := bD.lt
  go_wp2_with fail
  generalize (w8.alloc (.cells #[.int .i64 o.k, .string ⟨o.node.toArray⟩, .string ⟨o.serv.toArray⟩, .int .i64 o.a, .int .i64 o.b] 23)) = w9 at *
  go_ret
  exact ⟨rfl, hb9⟩

theorem codes_walkJ (k : Int) (nd sv : ByteArray) (a b : Int) (s : ByteArray) (at0 : Int) (w : World) (hE : EnvN w) (hH : HeadOK w) (hA : EnvE w) (ha : I64 a) (hbI : I64 b) (hn : nd.size ≤ maxLen) (hs9 : sv.size ≤ maxLen) (hs : s.size ≤ maxLen) (hat : (Lit.int .i64 at0).wf = true) :
    Calls Tryz.prog 4 #[nmV k nd sv a b, .string s, .int .i64 at0] w fun e w' => e = .returned (.bool true) ∧ Below w.heap.size w w' := by
  have l1 := c21_le nd
  have l2 := c21_le sv
  have l3 := c300_le s
  exact codes_ofJ k nd sv _ _ a b s _ _ at0 _ _ _ _ w hE hH hA ha hbI hn hs9 rfl rfl (by omega) (by omega) hs rfl (by omega) rfl rfl

end Go.Proofs.YtmbmolgkccjedaaGreatDoor
