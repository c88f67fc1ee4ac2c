/- The walk of Eid7Bytes. -/
import Derived.Test.YtmbmolgkccjedaaGreatDoorM29
set_option linter.unusedVariables false
set_option linter.unusedSimpArgs false
namespace Go.Proofs.YtmbmolgkccjedaaGreatDoor
open Go.RowKit
attribute [local go_sem ↓] Go.wp_at_zero Go.wp_at_succ

set_option maxRecDepth 100000 in
set_option maxHeartbeats 4000000 in
theorem bytes_ofJ0 (k : Int) (nd sv nd2 sv2 : ByteArray) (a b : Int) (y : Itm) (t t2 : ByteArray) (h3 : Int) (w : World) (hE : EnvN w) (hH : HeadOK w) (hA : EnvE w) (ha : I64 a) (hbI : I64 b) (hn : nd.size ≤ maxLen) (hs9 : sv.size ≤ maxLen) (hc1 : c21 nd = nd2) (hc2 : c21 sv = sv2) (hn2 : nd2.size ≤ 4000000000) (hv2 : sv2.size ≤ 4000000000) (hl : layI (nmO k nd2 sv2 a b) = (y, 60)) (hl2 : encN (nmO k nd2 sv2 a b) = (⟨#[]⟩, 60)) (hl3 : iencB y = (t2, h3)) (hdy : dep y ≤ 900) :
    Calls Tryz.prog 7 #[.agg #[.int .i64 k, .string nd, .string sv, .int .i64 a, .int .i64 b]] w fun e w' => e = .returned (.bool true) ∧ Below w.heap.size w w' := by
  have HC1 := Lib.hid hc1
  clear hc1
  have HC2 := Lib.hid hc2
  clear hc2
  have HL := Lib.hid hl
  clear hl
  have HL2 := Lib.hid hl2
  clear hl2
  have HL3 := Lib.hid hl3
  clear hl3
  have bE : Blk (w.alloc (.cells #[.int .i64 k, .string nd, .string sv, .int .i64 a, .int .i64 b] 23)) (w.heap.size) 23 #[.int .i64 k, .string nd, .string sv, .int .i64 a, .int .i64 b] := Blk.new w _ _
  have hb : Below w.heap.size w (w.alloc (.cells #[.int .i64 k, .string nd, .string sv, .int .i64 a, .int .i64 b] 23)) := ((Below.refl _ w).alloc (Nat.le_refl _) _)
  have hE0 := hE.below hb
  have hH0 := hH.below hb
  have hA0 := hA.below hb
  go_enter Tryz.func7, Tryz.ntmps7
  go_wp2_with fail
  generalize (w.alloc (.cells #[.int .i64 k, .string nd, .string sv, .int .i64 a, .int .i64 b] 23)) = w0 at *
  refine (shown_anyJ w0 hE0 hH0 hA0).mono ?_
  rintro e w1 ⟨rfl, hc1⟩
  have hb1 := hb.trans (hc1.mono hb.size)
  replace bE := bE.here hc1
  have hE1 := hE0.below hc1
  clear hE0
  have hH1 := hH0.below hc1
  clear hH0
  have hA1 := hA0.below hc1
  clear hA0
  clear hc1 hb
  obtain ⟨cE0, cE1, cE2, cE3, cE4⟩ := bE.five
  have fE0 := bE.frozen 0
  have fE1 := bE.frozen 1
  have fE2 := bE.frozen 2
  have fE3 := bE.frozen 3
  have fE4 := bE.frozen 4
  have lE := bE.lt
  go_wp2_with fail
  refine (lCut_any k nd sv a b w1 hn hs9).mono ?_
  rintro e w2 ⟨rfl, hc2⟩
  have hb2 := hb1.trans (hc2.mono hb1.size)
  replace bE := bE.here hc2
  have hE2 := hE1.below hc2
  clear hE1
  have hH2 := hH1.below hc2
  clear hH1
  have hA2 := hA1.below hc2
  clear hA1
  clear hc2 hb1
  rw [HC1.out, HC2.out]
  unfold nmV
  clear cE0 cE1 cE2 cE3 cE4 fE0 fE1 fE2 fE3 fE4 lE
  obtain ⟨cE0, cE1, cE2, cE3, cE4⟩ := bE.five
  have fE0 := bE.frozen 0
  have fE1 := bE.frozen 1
  have fE2 := bE.frozen 2
  have fE3 := bE.frozen 3
  have fE4 := bE.frozen 4
  have lE := bE.lt
  go_wp2_with fail
  clear cE0 cE1 cE2 cE3 cE4 fE0 fE1 fE2 fE3 fE4 lE
  have hb3 : Below w.heap.size w (((((w2.setCell ⟨w.heap.size, 0, none⟩ (.int .i64 k)).setCell ⟨w.heap.size, 1, none⟩ (.string nd2)).setCell ⟨w.heap.size, 2, none⟩ (.string sv2)).setCell ⟨w.heap.size, 3, none⟩ (.int .i64 a)).setCell ⟨w.heap.size, 4, none⟩ (.int .i64 b)) := (below_sets5 (B := w.heap.size) hb2 (by have := hb2.size; omega) _ _ _ _ _)
  have bE_ : Blk (((((w2.setCell ⟨w.heap.size, 0, none⟩ (.int .i64 k)).setCell ⟨w.heap.size, 1, none⟩ (.string nd2)).setCell ⟨w.heap.size, 2, none⟩ (.string sv2)).setCell ⟨w.heap.size, 3, none⟩ (.int .i64 a)).setCell ⟨w.heap.size, 4, none⟩ (.int .i64 b)) (w.heap.size) 23 #[.int .i64 k, .string nd2, .string sv2, .int .i64 a, .int .i64 b] := (bE.set5 _ _ _ _ _)
  clear bE
  have bE := bE_
  clear bE_
  have hE3 := hE.below hb3
  clear hE2
  have hH3 := hH.below hb3
  clear hH2
  have hA3 := hA.below hb3
  clear hA2
  clear hb2
  generalize (((((w2.setCell ⟨w.heap.size, 0, none⟩ (.int .i64 k)).setCell ⟨w.heap.size, 1, none⟩ (.string nd2)).setCell ⟨w.heap.size, 2, none⟩ (.string sv2)).setCell ⟨w.heap.size, 3, none⟩ (.int .i64 a)).setCell ⟨w.heap.size, 4, none⟩ (.int .i64 b)) = w3 at *
  refine (Item_any k nd2 sv2 a b y _ HL.out w3 hE3 ha hbI).mono ?_
  rintro e w4 ⟨⟨k4, n4, q4, p4, l4, c4, rfl, iA⟩, hc4⟩
  have hb4 := hb3.trans (hc4.mono hb3.size)
  replace bE := bE.here hc4
  have hE4 := hE3.below hc4
  clear hE3
  have hH4 := hH3.below hc4
  clear hH3
  have hA4 := hA3.below hc4
  clear hA3
  clear hc4 hb3
  have hc5 : Below w4.heap.size w4 (w4.alloc (.cells #[.int .i64 k4, .int .i64 n4, .string q4, .slice p4 l4 c4] 26)) := (Below.refl _ _).alloc (Nat.le_refl _) _
  have bA : Blk (w4.alloc (.cells #[.int .i64 k4, .int .i64 n4, .string q4, .slice p4 l4 c4] 26)) w4.heap.size 26 #[.int .i64 k4, .int .i64 n4, .string q4, .slice p4 l4 c4] := Blk.new _ _ _
  replace iA := iA.below hc5
  have hb5 := hb4.trans (hc5.mono hb4.size)
  replace bE := bE.here hc5
  have hE5 := hE4.below hc5
  clear hE4
  have hH5 := hH4.below hc5
  clear hH4
  have hA5 := hA4.below hc5
  clear hA4
  clear hc5 hb4
  obtain ⟨cE0, cE1, cE2, cE3, cE4⟩ := bE.five
  have fE0 := bE.frozen 0
  have fE1 := bE.frozen 1
  have fE2 := bE.frozen 2
  have fE3 := bE.frozen 3
  have fE4 := bE.frozen 4
  have lE := bE.lt
  go_wp2_with fail
  generalize (w4.alloc (.cells #[.int .i64 k4, .int .i64 n4, .string q4, .slice p4 l4 c4] 26)) = w5 at *
  refine (Encode_any k nd2 sv2 a b w5 hE5 hH5 hA5 ha hbI).mono ?_
  rintro e w6 ⟨rfl, hc6⟩
  replace iA := iA.below hc6
  have hb6 := hb5.trans (hc6.mono hb5.size)
  replace bE := bE.here hc6
  replace bA := bA.here hc6
  have hE6 := hE5.below hc6
  clear hE5
  have hH6 := hH5.below hc6
  clear hH5
  have hA6 := hA5.below hc6
  clear hA5
  clear hc6 hb5
  rw [HL2.out]
  clear cE0 cE1 cE2 cE3 cE4 fE0 fE1 fE2 fE3 fE4 lE
  obtain ⟨cA0, cA1, cA2, cA3⟩ := bA.four
  have fA0 := bA.frozen 0
  have fA1 := bA.frozen 1
  have fA2 := bA.frozen 2
  have fA3 := bA.frozen 3
  have lA := bA.lt
  go_wp2_with fail
  refine (iencode_any _ y _ w6 hH6 hA6 iA hdy).mono ?_
  rintro e w7 ⟨rfl, hc7⟩
  replace iA := iA.below hc7
  have hb7 := hb6.trans (hc7.mono hb6.size)
  replace bE := bE.here hc7
  replace bA := bA.here hc7
  have hE7 := hE6.below hc7
  clear hE6
  have hH7 := hH6.below hc7
  clear hH6
  have hA7 := hA6.below hc7
  clear hA6
  clear hc7 hb6
  rw [HL3.out]
  clear cA0 cA1 cA2 cA3 fA0 fA1 fA2 fA3 lA
  go_wp2_with fail
  go_ret
  exact ⟨rfl, hb7⟩

set_option maxRecDepth 100000 in
set_option maxHeartbeats 4000000 in
theorem bytes_ofJ1 (k : Int) (nd sv nd2 sv2 : ByteArray) (a b : Int) (y : Itm) (t t2 : ByteArray) (h3 : Int) (w : World) (hE : EnvN w) (hH : HeadOK w) (hA : EnvE w) (ha : I64 a) (hbI : I64 b) (hn : nd.size ≤ maxLen) (hs9 : sv.size ≤ maxLen) (hc1 : c21 nd = nd2) (hc2 : c21 sv = sv2) (hn2 : nd2.size ≤ 4000000000) (hv2 : sv2.size ≤ 4000000000) (hl : layI (nmO k nd2 sv2 a b) = (y, 0)) (hl2 : encN (nmO k nd2 sv2 a b) = (t, 0)) (hl3 : iencB y = (t, 0)) (hR : rightI y = true) (hyk : y.k = 4) (hdy : dep y ≤ 900) :
    Calls Tryz.prog 7 #[.agg #[.int .i64 k, .string nd, .string sv, .int .i64 a, .int .i64 b]] w fun e w' => e = .returned (.bool true) ∧ Below w.heap.size w w' := by
  have HC1 := Lib.hid hc1
  clear hc1
  have HC2 := Lib.hid hc2
  clear hc2
  have HL := Lib.hid hl
  clear hl
  have HL2 := Lib.hid hl2
  clear hl2
  have HL3 := Lib.hid hl3
  clear hl3
  have HR := Lib.hid hR
  clear hR
  have HYK := Lib.hid hyk
  clear hyk
  have bE : Blk (w.alloc (.cells #[.int .i64 k, .string nd, .string sv, .int .i64 a, .int .i64 b] 23)) (w.heap.size) 23 #[.int .i64 k, .string nd, .string sv, .int .i64 a, .int .i64 b] := Blk.new w _ _
  have hb : Below w.heap.size w (w.alloc (.cells #[.int .i64 k, .string nd, .string sv, .int .i64 a, .int .i64 b] 23)) := ((Below.refl _ w).alloc (Nat.le_refl _) _)
  have hE0 := hE.below hb
  have hH0 := hH.below hb
  have hA0 := hA.below hb
  go_enter Tryz.func7, Tryz.ntmps7
  go_wp2_with fail
  generalize (w.alloc (.cells #[.int .i64 k, .string nd, .string sv, .int .i64 a, .int .i64 b] 23)) = w0 at *
  refine (shown_anyJ w0 hE0 hH0 hA0).mono ?_
  rintro e w1 ⟨rfl, hc1⟩
  have hb1 := hb.trans (hc1.mono hb.size)
  replace bE := bE.here hc1
  have hE1 := hE0.below hc1
  clear hE0
  have hH1 := hH0.below hc1
  clear hH0
  have hA1 := hA0.below hc1
  clear hA0
  clear hc1 hb
  obtain ⟨cE0, cE1, cE2, cE3, cE4⟩ := bE.five
  have fE0 := bE.frozen 0
  have fE1 := bE.frozen 1
  have fE2 := bE.frozen 2
  have fE3 := bE.frozen 3
  have fE4 := bE.frozen 4
  have lE := bE.lt
  go_wp2_with fail
  refine (lCut_any k nd sv a b w1 hn hs9).mono ?_
  rintro e w2 ⟨rfl, hc2⟩
  have hb2 := hb1.trans (hc2.mono hb1.size)
  replace bE := bE.here hc2
  have hE2 := hE1.below hc2
  clear hE1
  have hH2 := hH1.below hc2
  clear hH1
  have hA2 := hA1.below hc2
  clear hA1
  clear hc2 hb1
  rw [HC1.out, HC2.out]
  unfold nmV
  clear cE0 cE1 cE2 cE3 cE4 fE0 fE1 fE2 fE3 fE4 lE
  obtain ⟨cE0, cE1, cE2, cE3, cE4⟩ := bE.five
  have fE0 := bE.frozen 0
  have fE1 := bE.frozen 1
  have fE2 := bE.frozen 2
  have fE3 := bE.frozen 3
  have fE4 := bE.frozen 4
  have lE := bE.lt
  go_wp2_with fail
  clear cE0 cE1 cE2 cE3 cE4 fE0 fE1 fE2 fE3 fE4 lE
  have hb3 : Below w.heap.size w (((((w2.setCell ⟨w.heap.size, 0, none⟩ (.int .i64 k)).setCell ⟨w.heap.size, 1, none⟩ (.string nd2)).setCell ⟨w.heap.size, 2, none⟩ (.string sv2)).setCell ⟨w.heap.size, 3, none⟩ (.int .i64 a)).setCell ⟨w.heap.size, 4, none⟩ (.int .i64 b)) := (below_sets5 (B := w.heap.size) hb2 (by have := hb2.size; omega) _ _ _ _ _)
  have bE_ : Blk (((((w2.setCell ⟨w.heap.size, 0, none⟩ (.int .i64 k)).setCell ⟨w.heap.size, 1, none⟩ (.string nd2)).setCell ⟨w.heap.size, 2, none⟩ (.string sv2)).setCell ⟨w.heap.size, 3, none⟩ (.int .i64 a)).setCell ⟨w.heap.size, 4, none⟩ (.int .i64 b)) (w.heap.size) 23 #[.int .i64 k, .string nd2, .string sv2, .int .i64 a, .int .i64 b] := (bE.set5 _ _ _ _ _)
  clear bE
  have bE := bE_
  clear bE_
  have hE3 := hE.below hb3
  clear hE2
  have hH3 := hH.below hb3
  clear hH2
  have hA3 := hA.below hb3
  clear hA2
  clear hb2
  generalize (((((w2.setCell ⟨w.heap.size, 0, none⟩ (.int .i64 k)).setCell ⟨w.heap.size, 1, none⟩ (.string nd2)).setCell ⟨w.heap.size, 2, none⟩ (.string sv2)).setCell ⟨w.heap.size, 3, none⟩ (.int .i64 a)).setCell ⟨w.heap.size, 4, none⟩ (.int .i64 b)) = w3 at *
  refine (Item_any k nd2 sv2 a b y _ HL.out w3 hE3 ha hbI).mono ?_
  rintro e w4 ⟨⟨k4, n4, q4, p4, l4, c4, rfl, iA⟩, hc4⟩
  have hb4 := hb3.trans (hc4.mono hb3.size)
  replace bE := bE.here hc4
  have hE4 := hE3.below hc4
  clear hE3
  have hH4 := hH3.below hc4
  clear hH3
  have hA4 := hA3.below hc4
  clear hA3
  clear hc4 hb3
  have hk4 : k4 = 4 := iA.kind.trans HYK.out
  subst hk4
  have hc5 : Below w4.heap.size w4 (w4.alloc (.cells #[.int .i64 4, .int .i64 n4, .string q4, .slice p4 l4 c4] 26)) := (Below.refl _ _).alloc (Nat.le_refl _) _
  have bA : Blk (w4.alloc (.cells #[.int .i64 4, .int .i64 n4, .string q4, .slice p4 l4 c4] 26)) w4.heap.size 26 #[.int .i64 4, .int .i64 n4, .string q4, .slice p4 l4 c4] := Blk.new _ _ _
  replace iA := iA.below hc5
  have hb5 := hb4.trans (hc5.mono hb4.size)
  replace bE := bE.here hc5
  have hE5 := hE4.below hc5
  clear hE4
  have hH5 := hH4.below hc5
  clear hH4
  have hA5 := hA4.below hc5
  clear hA4
  clear hc5 hb4
  obtain ⟨cE0, cE1, cE2, cE3, cE4⟩ := bE.five
  have fE0 := bE.frozen 0
  have fE1 := bE.frozen 1
  have fE2 := bE.frozen 2
  have fE3 := bE.frozen 3
  have fE4 := bE.frozen 4
  have lE := bE.lt
  go_wp2_with fail
  generalize (w4.alloc (.cells #[.int .i64 4, .int .i64 n4, .string q4, .slice p4 l4 c4] 26)) = w5 at *
  refine (Encode_any k nd2 sv2 a b w5 hE5 hH5 hA5 ha hbI).mono ?_
  rintro e w6 ⟨rfl, hc6⟩
  replace iA := iA.below hc6
  have hb6 := hb5.trans (hc6.mono hb5.size)
  replace bE := bE.here hc6
  replace bA := bA.here hc6
  have hE6 := hE5.below hc6
  clear hE5
  have hH6 := hH5.below hc6
  clear hH5
  have hA6 := hA5.below hc6
  clear hA5
  clear hc6 hb5
  rw [HL2.out]
  clear cE0 cE1 cE2 cE3 cE4 fE0 fE1 fE2 fE3 fE4 lE
  obtain ⟨cA0, cA1, cA2, cA3⟩ := bA.four
  have fA0 := bA.frozen 0
  have fA1 := bA.frozen 1
  have fA2 := bA.frozen 2
  have fA3 := bA.frozen 3
  have lA := bA.lt
  go_wp2_with fail
  refine (iencode_any _ y _ w6 hH6 hA6 iA hdy).mono ?_
  rintro e w7 ⟨rfl, hc7⟩
  replace iA := iA.below hc7
  have hb7 := hb6.trans (hc7.mono hb6.size)
  replace bE := bE.here hc7
  replace bA := bA.here hc7
  have hE7 := hE6.below hc7
  clear hE6
  have hH7 := hH6.below hc7
  clear hH6
  have hA7 := hA6.below hc7
  clear hA6
  clear hc7 hb6
  rw [HL3.out]
  clear cA0 cA1 cA2 cA3 fA0 fA1 fA2 fA3 lA
  obtain ⟨cA0, cA1, cA2, cA3⟩ := bA.four
  have fA0 := bA.frozen 0
  have fA1 := bA.frozen 1
  have fA2 := bA.frozen 2
  have fA3 := bA.frozen 3
  have lA := bA.lt
  go_wp2_with fail
  refine (iright_any _ y _ w7 iA hdy).mono ?_
  rintro e w8 ⟨rfl, hc8⟩
  replace iA := iA.below hc8
  have hb8 := hb7.trans (hc8.mono hb7.size)
  replace bE := bE.here hc8
  replace bA := bA.here hc8
  have hE8 := hE7.below hc8
  clear hE7
  have hH8 := hH7.below hc8
  clear hH7
  have hA8 := hA7.below hc8
  clear hA7
  clear hc8 hb7
  rw [HR.out]
  clear cA0 cA1 cA2 cA3 fA0 fA1 fA2 fA3 lA
  obtain ⟨cA0, cA1, cA2, cA3⟩ := bA.four
  have fA0 := bA.frozen 0
  have fA1 := bA.frozen 1
  have fA2 := bA.frozen 2
  have fA3 := bA.frozen 3
  have lA := bA.lt
  go_wp2_with fail
  go_ret
  exact ⟨rfl, hb8⟩

theorem bytes_walkJ (k : Int) (nd sv : ByteArray) (a b : Int) (w : World) (hE : EnvN w) (hH : HeadOK w) (hA : EnvE w) (ha : I64 a) (hbI : I64 b) (hn : nd.size ≤ maxLen) (hs9 : sv.size ≤ maxLen) :
    Calls Tryz.prog 7 #[nmV k nd sv a b] w fun e w' => e = .returned (.bool true) ∧ Below w.heap.size w w' := by
  have l1 := c21_le nd
  have l2 := c21_le sv
  cases hr : nmR (nmO k (c21 nd) (c21 sv) a b) with
  | false => exact bytes_ofJ0 k nd sv _ _ a b zerI ⟨#[]⟩ _ _ w hE hH hA ha hbI hn hs9 rfl rfl (by omega) (by omega) (by unfold layI; rw [hr]; rfl) (encN_no hr) rfl (by decide)
  | true =>
    obtain ⟨l, hl⟩ := itm_list (nmO k (c21 nd) (c21 sv) a b)
    exact bytes_ofJ1 k nd sv _ _ a b _ _ ⟨#[]⟩ 0 w hE hH hA ha hbI hn hs9 rfl rfl (by omega) (by omega) (by unfold layI; rw [hr]; rfl) (encN_yes hr) (iencB_ok (itm_right hr)) (itm_right hr) (by rw [hl]; rfl) (Nat.le_trans (itm_dep _) (by decide))

end Go.Proofs.YtmbmolgkccjedaaGreatDoor
