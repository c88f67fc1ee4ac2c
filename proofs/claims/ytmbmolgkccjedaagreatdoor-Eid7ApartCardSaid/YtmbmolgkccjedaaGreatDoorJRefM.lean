/- The document's Name (package postriderref10): a list of two items; Encode, Decode. -/
import Derived.Test.YtmbmolgkccjedaaGreatDoorJRefN
set_option linter.unusedVariables false
set_option linter.unusedSimpArgs false
namespace Go.Proofs.YtmbmolgkccjedaaGreatDoor
open Go.RowKit
attribute [local go_sem ↓] Go.wp_at_zero Go.wp_at_succ

theorem reads_n {ok : Nat → Prop} {W : World} {p : Option Addr} {l : List Itm} {z0 z1 : Itm} (h : ItsV ok W l p 0) (h0 : l[0]? = some z0) (h1 : l[1]? = some z1) :
    ∃ b, p = some b ∧ W.cell? ⟨b.block, b.off + 1, none⟩ = some (.int .i64 z0.n) ∧ W.cell? ⟨b.block, b.off + 4 + 1, none⟩ = some (.int .i64 z1.n) := by
  obtain ⟨b, c0, c1, c2, c3, rfl, _, _, e1, _, _, hv⟩ := ItsV.reads l 0 z0 h h0
  obtain ⟨b', d0, d1, d2, d3, he, _, _, f1, _, _, hv'⟩ := ItsV.reads l 1 z1 h h1
  obtain rfl := Option.some.inj he
  obtain ⟨_, _, ha, -⟩ := hv.parts
  obtain ⟨_, _, hb, -⟩ := hv'.parts
  simp only [Value.agg.injEq, Array.mk.injEq, List.cons.injEq, and_true] at ha hb
  obtain ⟨-, rfl, -, -⟩ := ha
  obtain ⟨-, rfl, -, -⟩ := hb
  refine ⟨b, rfl, ?_, ?_⟩
  · have : b.add (0 * 4) = b := by rw [Nat.zero_mul]; unfold Addr.add; rw [if_pos rfl]
    rw [this] at e1
    exact e1
  · rw [show b.add (1 * 4) = ⟨b.block, b.off + 4, none⟩ from add_pos _ _ (by decide)] at f1
    exact f1

set_option maxRecDepth 100000 in
set_option maxHeartbeats 2000000 in
theorem rjName_L_no (ok : Nat → Prop) (x y z0 z1 : Itm) (v : Value) (o : Nm) (hoe : o = ⟨2, [], [], z0.n, z1.n⟩) (hlen : x.l.length = 2) (hy : x.l[1]? = some y) (hk : y.k = 4) (hlen2 : y.l.length = 2) (hz0 : y.l[0]? = some z0) (hz1 : y.l[1]? = some z1) (hr : nmR o = false) (w : World) (hx : ItV ok w x v) (ra : I64 z0.n) (rb : I64 z1.n) :
    Calls Tryz.prog 14 #[v] w fun e w' => e = .returned (.tuple #[.agg #[.int .i64 0, .string ⟨#[]⟩, .string ⟨#[]⟩, .int .i64 0, .int .i64 0], .int .i64 60]) ∧ Below w.heap.size w w' := by
  obtain ⟨p, cap, rfl, hcap, hits, -, -, -⟩ := id hx.parts
  have hy' : x.l[1]? = some y := hy
  obtain ⟨a, c0, c1, c2, c3, rfl, hok, e0, e1, e2, e3, hvy⟩ := ItsV.reads x.l 1 y hits hy'
  obtain ⟨p2, cap2, he, -, hits2, -⟩ := hvy.parts
  simp only [Value.agg.injEq, Array.mk.injEq, List.cons.injEq, and_true] at he
  obtain ⟨rfl, rfl, rfl, rfl⟩ := he
  have g1 : ((x.l.length : Int) == 2) = true := by simp; omega
  have g2 : (x.l.length == 2) = true := by simpa using hlen
  have g3 : (1 : Int) < (x.l.length : Int) := by omega
  have g4 : 1 < x.l.length := by omega
  rw [show a.add (1 * 4) = ⟨a.block, a.off + 4, none⟩ from add_pos _ _ (by decide)] at e0 e1 e2 e3
  simp only at e1 e2 e3
  obtain ⟨bb, rfl, q0, q1⟩ := reads_n hits2 hz0 hz1
  have g10 : ((y.l.length : Int) == 2) = true := by simp; omega
  have g11 : (y.l.length == 2) = true := by simpa using hlen2
  have g12 : (1 : Int) < (y.l.length : Int) := by omega
  have g13 : (0 : Int) < (y.l.length : Int) := by omega
  have g14 : 1 < y.l.length := by omega
  have g15 : 0 < y.l.length := by omega
  clear hits2 hz0 hz1 hlen2
  have HVY := Lib.hid hvy
  have HLEN := Lib.hid hlen
  clear hy hy' hits hvy hcap hlen
  have HLY := Lib.hid (show layI o = (zerI, 60) by unfold layI; rw [hr]; rfl)
  clear hr
  have HSELF := Lib.hid (show nmO 2 ⟨#[]⟩ ⟨#[]⟩ z0.n z1.n = o by rw [hoe]; rfl)
  have hn : (⟨#[]⟩ : ByteArray).size ≤ 4000000000 := by decide
  have hv : (⟨#[]⟩ : ByteArray).size ≤ 4000000000 := by decide
  clear hoe
  have g5 : (y.k == 3) = false := by simp [hk]
  have g6 : (y.k == 4) = true := by simp [hk]
  clear hk
  have bR_ := Blk.new (w.alloc (.cells #[.int .i64 x.k, .int .i64 x.n, .string ⟨x.s.toArray⟩, .slice (some a) x.l.length cap] 26)) 23 #[.int .i64 0, .string ⟨#[]⟩, .string ⟨#[]⟩, .int .i64 0, .int .i64 0]
  simp only [World.size_alloc] at bR_
  have bE_ := Blk.new ((w.alloc (.cells #[.int .i64 x.k, .int .i64 x.n, .string ⟨x.s.toArray⟩, .slice (some a) x.l.length cap] 26)).alloc (.cells #[.int .i64 0, .string ⟨#[]⟩, .string ⟨#[]⟩, .int .i64 0, .int .i64 0] 23)) 23 #[.int .i64 0, .string ⟨#[]⟩, .string ⟨#[]⟩, .int .i64 0, .int .i64 0]
  simp only [World.size_alloc] at bE_
  have bY_ := Blk.new (((w.alloc (.cells #[.int .i64 x.k, .int .i64 x.n, .string ⟨x.s.toArray⟩, .slice (some a) x.l.length cap] 26)).alloc (.cells #[.int .i64 0, .string ⟨#[]⟩, .string ⟨#[]⟩, .int .i64 0, .int .i64 0] 23)).alloc (.cells #[.int .i64 0, .string ⟨#[]⟩, .string ⟨#[]⟩, .int .i64 0, .int .i64 0] 23)) 26 #[.int .i64 y.k, .int .i64 y.n, .string ⟨y.s.toArray⟩, .slice (some bb) y.l.length cap2]
  simp only [World.size_alloc] at bY_
  have bX : Blk ((((w.alloc (.cells #[.int .i64 x.k, .int .i64 x.n, .string ⟨x.s.toArray⟩, .slice (some a) x.l.length cap] 26)).alloc (.cells #[.int .i64 0, .string ⟨#[]⟩, .string ⟨#[]⟩, .int .i64 0, .int .i64 0] 23)).alloc (.cells #[.int .i64 0, .string ⟨#[]⟩, .string ⟨#[]⟩, .int .i64 0, .int .i64 0] 23)).alloc (.cells #[.int .i64 y.k, .int .i64 y.n, .string ⟨y.s.toArray⟩, .slice (some bb) y.l.length cap2] 26)) (w.heap.size) 26 #[.int .i64 x.k, .int .i64 x.n, .string ⟨x.s.toArray⟩, .slice (some a) x.l.length cap] := (((Blk.new w _ _).alloc _).alloc _).alloc _
  have bR : Blk ((((w.alloc (.cells #[.int .i64 x.k, .int .i64 x.n, .string ⟨x.s.toArray⟩, .slice (some a) x.l.length cap] 26)).alloc (.cells #[.int .i64 0, .string ⟨#[]⟩, .string ⟨#[]⟩, .int .i64 0, .int .i64 0] 23)).alloc (.cells #[.int .i64 0, .string ⟨#[]⟩, .string ⟨#[]⟩, .int .i64 0, .int .i64 0] 23)).alloc (.cells #[.int .i64 y.k, .int .i64 y.n, .string ⟨y.s.toArray⟩, .slice (some bb) y.l.length cap2] 26)) (w.heap.size + 1) 23 #[.int .i64 0, .string ⟨#[]⟩, .string ⟨#[]⟩, .int .i64 0, .int .i64 0] := ((bR_).alloc _).alloc _
  have bE : Blk ((((w.alloc (.cells #[.int .i64 x.k, .int .i64 x.n, .string ⟨x.s.toArray⟩, .slice (some a) x.l.length cap] 26)).alloc (.cells #[.int .i64 0, .string ⟨#[]⟩, .string ⟨#[]⟩, .int .i64 0, .int .i64 0] 23)).alloc (.cells #[.int .i64 0, .string ⟨#[]⟩, .string ⟨#[]⟩, .int .i64 0, .int .i64 0] 23)).alloc (.cells #[.int .i64 y.k, .int .i64 y.n, .string ⟨y.s.toArray⟩, .slice (some bb) y.l.length cap2] 26)) (w.heap.size + 1 + 1) 23 #[.int .i64 0, .string ⟨#[]⟩, .string ⟨#[]⟩, .int .i64 0, .int .i64 0] := (bE_).alloc _
  have bY : Blk ((((w.alloc (.cells #[.int .i64 x.k, .int .i64 x.n, .string ⟨x.s.toArray⟩, .slice (some a) x.l.length cap] 26)).alloc (.cells #[.int .i64 0, .string ⟨#[]⟩, .string ⟨#[]⟩, .int .i64 0, .int .i64 0] 23)).alloc (.cells #[.int .i64 0, .string ⟨#[]⟩, .string ⟨#[]⟩, .int .i64 0, .int .i64 0] 23)).alloc (.cells #[.int .i64 y.k, .int .i64 y.n, .string ⟨y.s.toArray⟩, .slice (some bb) y.l.length cap2] 26)) (w.heap.size + 1 + 1 + 1) 26 #[.int .i64 y.k, .int .i64 y.n, .string ⟨y.s.toArray⟩, .slice (some bb) y.l.length cap2] := bY_
  have hb : Below w.heap.size w ((((w.alloc (.cells #[.int .i64 x.k, .int .i64 x.n, .string ⟨x.s.toArray⟩, .slice (some a) x.l.length cap] 26)).alloc (.cells #[.int .i64 0, .string ⟨#[]⟩, .string ⟨#[]⟩, .int .i64 0, .int .i64 0] 23)).alloc (.cells #[.int .i64 0, .string ⟨#[]⟩, .string ⟨#[]⟩, .int .i64 0, .int .i64 0] 23)).alloc (.cells #[.int .i64 y.k, .int .i64 y.n, .string ⟨y.s.toArray⟩, .slice (some bb) y.l.length cap2] 26)) := (((((Below.refl _ w).alloc (Nat.le_refl _) _).alloc (by simp; try omega) _).alloc (by simp; try omega) _).alloc (by simp; try omega) _)
  have hx0 := hx.below hb
  clear bR_
  clear bE_
  clear bY_
  have h3 : Below w.heap.size w (((w.alloc (.cells #[.int .i64 x.k, .int .i64 x.n, .string ⟨x.s.toArray⟩, .slice (some a) x.l.length cap] 26)).alloc (.cells #[.int .i64 0, .string ⟨#[]⟩, .string ⟨#[]⟩, .int .i64 0, .int .i64 0] 23)).alloc (.cells #[.int .i64 0, .string ⟨#[]⟩, .string ⟨#[]⟩, .int .i64 0, .int .i64 0] 23)) := (((Below.refl _ w).alloc (Nat.le_refl _) _).alloc (by simp; try omega) _).alloc (by simp; try omega) _
  have d0 := (h3.cell (World.block_lt_of_cell? _ _ e0)).trans e0
  have d1 := (h3.cell (World.block_lt_of_cell? _ _ e1)).trans e1
  have d2 := (h3.cell (World.block_lt_of_cell? _ _ e2)).trans e2
  have d3 := (h3.cell (World.block_lt_of_cell? _ _ e3)).trans e3
  have r0 := (hb.cell (World.block_lt_of_cell? _ _ q0)).trans q0
  have n0 := World.block_lt_of_cell? _ _ q0
  simp only at n0
  have r1 := (hb.cell (World.block_lt_of_cell? _ _ q1)).trans q1
  have n1 := World.block_lt_of_cell? _ _ q1
  simp only at n1
  clear h3 e0 e1 e2 e3 q0 q1
  obtain ⟨cX0, cX1, cX2, cX3⟩ := bX.four
  have lX := bX.lt
  obtain ⟨cE0, cE1, cE2, cE3, cE4⟩ := bE.five
  have fE0 := bE.frozen 0
  have fE1 := bE.frozen 1
  have fE2 := bE.frozen 2
  have fE3 := bE.frozen 3
  have fE4 := bE.frozen 4
  have lE := bE.lt
  obtain ⟨cY0, cY1, cY2, cY3⟩ := bY.four
  have lY := bY.lt
  have m1 : bb.block ≠ w.heap.size + 1 + 1 := by omega
  have m2 := m1.symm
  go_enter Tryz.func14, Tryz.ntmps14
  go_wp2_with fail
  generalize ((((w.alloc (.cells #[.int .i64 x.k, .int .i64 x.n, .string ⟨x.s.toArray⟩, .slice (some a) x.l.length cap] 26)).alloc (.cells #[.int .i64 0, .string ⟨#[]⟩, .string ⟨#[]⟩, .int .i64 0, .int .i64 0] 23)).alloc (.cells #[.int .i64 0, .string ⟨#[]⟩, .string ⟨#[]⟩, .int .i64 0, .int .i64 0] 23)).alloc (.cells #[.int .i64 y.k, .int .i64 y.n, .string ⟨y.s.toArray⟩, .slice (some bb) y.l.length cap2] 26)) = w0 at *
  go_region
  go_wp2_with fail
  clear d0 d1 d2 d3 r0 r1 n0 n1 m1 m2
  clear cX0 cX1 cX2 cX3 lX
  clear cE0 cE1 cE2 cE3 cE4 fE0 fE1 fE2 fE3 fE4 lE
  clear cY0 cY1 cY2 cY3 lY
  have hb1 : Below w.heap.size w (((((w0.setCell ⟨w.heap.size + 1 + 1, 0, none⟩ (.int .i64 2)).setCell ⟨w.heap.size + 1 + 1, 1, none⟩ (.string ⟨#[]⟩)).setCell ⟨w.heap.size + 1 + 1, 2, none⟩ (.string ⟨#[]⟩)).setCell ⟨w.heap.size + 1 + 1, 3, none⟩ (.int .i64 z0.n)).setCell ⟨w.heap.size + 1 + 1, 4, none⟩ (.int .i64 z1.n)).drew := (below_sets5 (B := w.heap.size + 1 + 1) hb (by omega) _ _ _ _ _).drew
  have bX_ : Blk (((((w0.setCell ⟨w.heap.size + 1 + 1, 0, none⟩ (.int .i64 2)).setCell ⟨w.heap.size + 1 + 1, 1, none⟩ (.string ⟨#[]⟩)).setCell ⟨w.heap.size + 1 + 1, 2, none⟩ (.string ⟨#[]⟩)).setCell ⟨w.heap.size + 1 + 1, 3, none⟩ (.int .i64 z0.n)).setCell ⟨w.heap.size + 1 + 1, 4, none⟩ (.int .i64 z1.n)).drew (w.heap.size) 26 #[.int .i64 x.k, .int .i64 x.n, .string ⟨x.s.toArray⟩, .slice (some a) x.l.length cap] := (Blk.sets5 (by omega) bX _ _ _ _ _).drew
  have bR_ : Blk (((((w0.setCell ⟨w.heap.size + 1 + 1, 0, none⟩ (.int .i64 2)).setCell ⟨w.heap.size + 1 + 1, 1, none⟩ (.string ⟨#[]⟩)).setCell ⟨w.heap.size + 1 + 1, 2, none⟩ (.string ⟨#[]⟩)).setCell ⟨w.heap.size + 1 + 1, 3, none⟩ (.int .i64 z0.n)).setCell ⟨w.heap.size + 1 + 1, 4, none⟩ (.int .i64 z1.n)).drew (w.heap.size + 1) 23 #[.int .i64 0, .string ⟨#[]⟩, .string ⟨#[]⟩, .int .i64 0, .int .i64 0] := (Blk.sets5 (by omega) bR _ _ _ _ _).drew
  have bE_ : Blk (((((w0.setCell ⟨w.heap.size + 1 + 1, 0, none⟩ (.int .i64 2)).setCell ⟨w.heap.size + 1 + 1, 1, none⟩ (.string ⟨#[]⟩)).setCell ⟨w.heap.size + 1 + 1, 2, none⟩ (.string ⟨#[]⟩)).setCell ⟨w.heap.size + 1 + 1, 3, none⟩ (.int .i64 z0.n)).setCell ⟨w.heap.size + 1 + 1, 4, none⟩ (.int .i64 z1.n)).drew (w.heap.size + 1 + 1) 23 #[.int .i64 2, .string ⟨#[]⟩, .string ⟨#[]⟩, .int .i64 z0.n, .int .i64 z1.n] := (bE.set5 _ _ _ _ _).drew
  have bY_ : Blk (((((w0.setCell ⟨w.heap.size + 1 + 1, 0, none⟩ (.int .i64 2)).setCell ⟨w.heap.size + 1 + 1, 1, none⟩ (.string ⟨#[]⟩)).setCell ⟨w.heap.size + 1 + 1, 2, none⟩ (.string ⟨#[]⟩)).setCell ⟨w.heap.size + 1 + 1, 3, none⟩ (.int .i64 z0.n)).setCell ⟨w.heap.size + 1 + 1, 4, none⟩ (.int .i64 z1.n)).drew (w.heap.size + 1 + 1 + 1) 26 #[.int .i64 y.k, .int .i64 y.n, .string ⟨y.s.toArray⟩, .slice (some bb) y.l.length cap2] := (Blk.sets5 (by omega) bY _ _ _ _ _).drew
  clear bX bR bE bY
  have bX := bX_
  clear bX_
  have bR := bR_
  clear bR_
  have bE := bE_
  clear bE_
  have bY := bY_
  clear bY_
  have hx1 := hx.below hb1
  clear hx0
  clear hb
  generalize (((((w0.setCell ⟨w.heap.size + 1 + 1, 0, none⟩ (.int .i64 2)).setCell ⟨w.heap.size + 1 + 1, 1, none⟩ (.string ⟨#[]⟩)).setCell ⟨w.heap.size + 1 + 1, 2, none⟩ (.string ⟨#[]⟩)).setCell ⟨w.heap.size + 1 + 1, 3, none⟩ (.int .i64 z0.n)).setCell ⟨w.heap.size + 1 + 1, 4, none⟩ (.int .i64 z1.n)).drew = w1 at *
  obtain ⟨cE0, cE1, cE2, cE3, cE4⟩ := bE.five
  have lE := bE.lt
  refine (rjItem_any 2 ⟨#[]⟩ ⟨#[]⟩ z0.n z1.n _ _ ((congrArg layI HSELF.out).trans HLY.out) w1 hn hv ra rb).mono ?_
  rintro e w2 ⟨⟨k1, m1, s1, p1, l1, c1, rfl, hI⟩, hc2⟩
  have hb2 := hb1.trans (hc2.mono hb1.size)
  replace bX := bX.here hc2
  replace bR := bR.here hc2
  replace bE := bE.here hc2
  replace bY := bY.here hc2
  have hx2 := hx1.below hc2
  clear hx1
  clear hc2 hb1
  clear cE0 cE1 cE2 cE3 cE4 lE
  clear hI
  have hc3 : Below w2.heap.size w2 (w2.alloc (.cells #[.int .i64 k1, .int .i64 m1, .string s1, .slice p1 l1 c1] 26)) := (Below.refl _ _).alloc (Nat.le_refl _) _
  have bO : Blk (w2.alloc (.cells #[.int .i64 k1, .int .i64 m1, .string s1, .slice p1 l1 c1] 26)) w2.heap.size 26 #[.int .i64 k1, .int .i64 m1, .string s1, .slice p1 l1 c1] := Blk.new _ _ _
  have hb3 := hb2.trans (hc3.mono hb2.size)
  replace bX := bX.here hc3
  replace bR := bR.here hc3
  replace bE := bE.here hc3
  replace bY := bY.here hc3
  have hx3 := hx2.below hc3
  clear hx2
  clear hc3 hb2
  obtain ⟨cR0, cR1, cR2, cR3, cR4⟩ := bR.five
  have fR0 := bR.frozen 0
  have fR1 := bR.frozen 1
  have fR2 := bR.frozen 2
  have fR3 := bR.frozen 3
  have fR4 := bR.frozen 4
  have lR := bR.lt
  go_wp2_with fail
  generalize (w2.alloc (.cells #[.int .i64 k1, .int .i64 m1, .string s1, .slice p1 l1 c1] 26)) = w3 at *
  refine bodyPost_ret (res_name2 (bR.set5 _ _ _ _ _) rfl rfl rfl) rfl ⟨rfl, below_sets5 hb3 (by omega) _ _ _ _ _⟩

set_option maxRecDepth 100000 in
set_option maxHeartbeats 2000000 in
theorem rjName_L_diff (ok : Nat → Prop) (x y z0 z1 : Itm) (v : Value) (o : Nm) (hoe : o = ⟨2, [], [], z0.n, z1.n⟩) (hlen : x.l.length = 2) (hy : x.l[1]? = some y) (hk : y.k = 4) (hlen2 : y.l.length = 2) (hz0 : y.l[0]? = some z0) (hz1 : y.l[1]? = some z1) (hr : nmR o = true) (hb2 : sameB (itmN o) x = false) (w : World) (hx : ItV ok w x v) (ra : I64 z0.n) (rb : I64 z1.n) :
    Calls Tryz.prog 14 #[v] w fun e w' => e = .returned (.tuple #[.agg #[.int .i64 0, .string ⟨#[]⟩, .string ⟨#[]⟩, .int .i64 0, .int .i64 0], .int .i64 60]) ∧ Below w.heap.size w w' := by
  obtain ⟨p, cap, rfl, hcap, hits, -, -, -⟩ := id hx.parts
  have hy' : x.l[1]? = some y := hy
  obtain ⟨a, c0, c1, c2, c3, rfl, hok, e0, e1, e2, e3, hvy⟩ := ItsV.reads x.l 1 y hits hy'
  obtain ⟨p2, cap2, he, -, hits2, -⟩ := hvy.parts
  simp only [Value.agg.injEq, Array.mk.injEq, List.cons.injEq, and_true] at he
  obtain ⟨rfl, rfl, rfl, rfl⟩ := he
  have g1 : ((x.l.length : Int) == 2) = true := by simp; omega
  have g2 : (x.l.length == 2) = true := by simpa using hlen
  have g3 : (1 : Int) < (x.l.length : Int) := by omega
  have g4 : 1 < x.l.length := by omega
  rw [show a.add (1 * 4) = ⟨a.block, a.off + 4, none⟩ from add_pos _ _ (by decide)] at e0 e1 e2 e3
  simp only at e1 e2 e3
  obtain ⟨bb, rfl, q0, q1⟩ := reads_n hits2 hz0 hz1
  have g10 : ((y.l.length : Int) == 2) = true := by simp; omega
  have g11 : (y.l.length == 2) = true := by simpa using hlen2
  have g12 : (1 : Int) < (y.l.length : Int) := by omega
  have g13 : (0 : Int) < (y.l.length : Int) := by omega
  have g14 : 1 < y.l.length := by omega
  have g15 : 0 < y.l.length := by omega
  clear hits2 hz0 hz1 hlen2
  have HVY := Lib.hid hvy
  have HLEN := Lib.hid hlen
  clear hy hy' hits hvy hcap hlen
  have HLY := Lib.hid (show layI o = (itmN o, 0) by unfold layI; rw [hr]; rfl)
  clear hr
  have HS2 := Lib.hid hb2
  clear hb2
  have HSELF := Lib.hid (show nmO 2 ⟨#[]⟩ ⟨#[]⟩ z0.n z1.n = o by rw [hoe]; rfl)
  have hn : (⟨#[]⟩ : ByteArray).size ≤ 4000000000 := by decide
  have hv : (⟨#[]⟩ : ByteArray).size ≤ 4000000000 := by decide
  clear hoe
  have g5 : (y.k == 3) = false := by simp [hk]
  have g6 : (y.k == 4) = true := by simp [hk]
  clear hk
  have bR_ := Blk.new (w.alloc (.cells #[.int .i64 x.k, .int .i64 x.n, .string ⟨x.s.toArray⟩, .slice (some a) x.l.length cap] 26)) 23 #[.int .i64 0, .string ⟨#[]⟩, .string ⟨#[]⟩, .int .i64 0, .int .i64 0]
  simp only [World.size_alloc] at bR_
  have bE_ := Blk.new ((w.alloc (.cells #[.int .i64 x.k, .int .i64 x.n, .string ⟨x.s.toArray⟩, .slice (some a) x.l.length cap] 26)).alloc (.cells #[.int .i64 0, .string ⟨#[]⟩, .string ⟨#[]⟩, .int .i64 0, .int .i64 0] 23)) 23 #[.int .i64 0, .string ⟨#[]⟩, .string ⟨#[]⟩, .int .i64 0, .int .i64 0]
  simp only [World.size_alloc] at bE_
  have bY_ := Blk.new (((w.alloc (.cells #[.int .i64 x.k, .int .i64 x.n, .string ⟨x.s.toArray⟩, .slice (some a) x.l.length cap] 26)).alloc (.cells #[.int .i64 0, .string ⟨#[]⟩, .string ⟨#[]⟩, .int .i64 0, .int .i64 0] 23)).alloc (.cells #[.int .i64 0, .string ⟨#[]⟩, .string ⟨#[]⟩, .int .i64 0, .int .i64 0] 23)) 26 #[.int .i64 y.k, .int .i64 y.n, .string ⟨y.s.toArray⟩, .slice (some bb) y.l.length cap2]
  simp only [World.size_alloc] at bY_
  have bX : Blk ((((w.alloc (.cells #[.int .i64 x.k, .int .i64 x.n, .string ⟨x.s.toArray⟩, .slice (some a) x.l.length cap] 26)).alloc (.cells #[.int .i64 0, .string ⟨#[]⟩, .string ⟨#[]⟩, .int .i64 0, .int .i64 0] 23)).alloc (.cells #[.int .i64 0, .string ⟨#[]⟩, .string ⟨#[]⟩, .int .i64 0, .int .i64 0] 23)).alloc (.cells #[.int .i64 y.k, .int .i64 y.n, .string ⟨y.s.toArray⟩, .slice (some bb) y.l.length cap2] 26)) (w.heap.size) 26 #[.int .i64 x.k, .int .i64 x.n, .string ⟨x.s.toArray⟩, .slice (some a) x.l.length cap] := (((Blk.new w _ _).alloc _).alloc _).alloc _
  have bR : Blk ((((w.alloc (.cells #[.int .i64 x.k, .int .i64 x.n, .string ⟨x.s.toArray⟩, .slice (some a) x.l.length cap] 26)).alloc (.cells #[.int .i64 0, .string ⟨#[]⟩, .string ⟨#[]⟩, .int .i64 0, .int .i64 0] 23)).alloc (.cells #[.int .i64 0, .string ⟨#[]⟩, .string ⟨#[]⟩, .int .i64 0, .int .i64 0] 23)).alloc (.cells #[.int .i64 y.k, .int .i64 y.n, .string ⟨y.s.toArray⟩, .slice (some bb) y.l.length cap2] 26)) (w.heap.size + 1) 23 #[.int .i64 0, .string ⟨#[]⟩, .string ⟨#[]⟩, .int .i64 0, .int .i64 0] := ((bR_).alloc _).alloc _
  have bE : Blk ((((w.alloc (.cells #[.int .i64 x.k, .int .i64 x.n, .string ⟨x.s.toArray⟩, .slice (some a) x.l.length cap] 26)).alloc (.cells #[.int .i64 0, .string ⟨#[]⟩, .string ⟨#[]⟩, .int .i64 0, .int .i64 0] 23)).alloc (.cells #[.int .i64 0, .string ⟨#[]⟩, .string ⟨#[]⟩, .int .i64 0, .int .i64 0] 23)).alloc (.cells #[.int .i64 y.k, .int .i64 y.n, .string ⟨y.s.toArray⟩, .slice (some bb) y.l.length cap2] 26)) (w.heap.size + 1 + 1) 23 #[.int .i64 0, .string ⟨#[]⟩, .string ⟨#[]⟩, .int .i64 0, .int .i64 0] := (bE_).alloc _
  have bY : Blk ((((w.alloc (.cells #[.int .i64 x.k, .int .i64 x.n, .string ⟨x.s.toArray⟩, .slice (some a) x.l.length cap] 26)).alloc (.cells #[.int .i64 0, .string ⟨#[]⟩, .string ⟨#[]⟩, .int .i64 0, .int .i64 0] 23)).alloc (.cells #[.int .i64 0, .string ⟨#[]⟩, .string ⟨#[]⟩, .int .i64 0, .int .i64 0] 23)).alloc (.cells #[.int .i64 y.k, .int .i64 y.n, .string ⟨y.s.toArray⟩, .slice (some bb) y.l.length cap2] 26)) (w.heap.size + 1 + 1 + 1) 26 #[.int .i64 y.k, .int .i64 y.n, .string ⟨y.s.toArray⟩, .slice (some bb) y.l.length cap2] := bY_
  have hb : Below w.heap.size w ((((w.alloc (.cells #[.int .i64 x.k, .int .i64 x.n, .string ⟨x.s.toArray⟩, .slice (some a) x.l.length cap] 26)).alloc (.cells #[.int .i64 0, .string ⟨#[]⟩, .string ⟨#[]⟩, .int .i64 0, .int .i64 0] 23)).alloc (.cells #[.int .i64 0, .string ⟨#[]⟩, .string ⟨#[]⟩, .int .i64 0, .int .i64 0] 23)).alloc (.cells #[.int .i64 y.k, .int .i64 y.n, .string ⟨y.s.toArray⟩, .slice (some bb) y.l.length cap2] 26)) := (((((Below.refl _ w).alloc (Nat.le_refl _) _).alloc (by simp; try omega) _).alloc (by simp; try omega) _).alloc (by simp; try omega) _)
  have hx0 := hx.below hb
  clear bR_
  clear bE_
  clear bY_
  have h3 : Below w.heap.size w (((w.alloc (.cells #[.int .i64 x.k, .int .i64 x.n, .string ⟨x.s.toArray⟩, .slice (some a) x.l.length cap] 26)).alloc (.cells #[.int .i64 0, .string ⟨#[]⟩, .string ⟨#[]⟩, .int .i64 0, .int .i64 0] 23)).alloc (.cells #[.int .i64 0, .string ⟨#[]⟩, .string ⟨#[]⟩, .int .i64 0, .int .i64 0] 23)) := (((Below.refl _ w).alloc (Nat.le_refl _) _).alloc (by simp; try omega) _).alloc (by simp; try omega) _
  have d0 := (h3.cell (World.block_lt_of_cell? _ _ e0)).trans e0
  have d1 := (h3.cell (World.block_lt_of_cell? _ _ e1)).trans e1
  have d2 := (h3.cell (World.block_lt_of_cell? _ _ e2)).trans e2
  have d3 := (h3.cell (World.block_lt_of_cell? _ _ e3)).trans e3
  have r0 := (hb.cell (World.block_lt_of_cell? _ _ q0)).trans q0
  have n0 := World.block_lt_of_cell? _ _ q0
  simp only at n0
  have r1 := (hb.cell (World.block_lt_of_cell? _ _ q1)).trans q1
  have n1 := World.block_lt_of_cell? _ _ q1
  simp only at n1
  clear h3 e0 e1 e2 e3 q0 q1
  obtain ⟨cX0, cX1, cX2, cX3⟩ := bX.four
  have lX := bX.lt
  obtain ⟨cE0, cE1, cE2, cE3, cE4⟩ := bE.five
  have fE0 := bE.frozen 0
  have fE1 := bE.frozen 1
  have fE2 := bE.frozen 2
  have fE3 := bE.frozen 3
  have fE4 := bE.frozen 4
  have lE := bE.lt
  obtain ⟨cY0, cY1, cY2, cY3⟩ := bY.four
  have lY := bY.lt
  have m1 : bb.block ≠ w.heap.size + 1 + 1 := by omega
  have m2 := m1.symm
  go_enter Tryz.func14, Tryz.ntmps14
  go_wp2_with fail
  generalize ((((w.alloc (.cells #[.int .i64 x.k, .int .i64 x.n, .string ⟨x.s.toArray⟩, .slice (some a) x.l.length cap] 26)).alloc (.cells #[.int .i64 0, .string ⟨#[]⟩, .string ⟨#[]⟩, .int .i64 0, .int .i64 0] 23)).alloc (.cells #[.int .i64 0, .string ⟨#[]⟩, .string ⟨#[]⟩, .int .i64 0, .int .i64 0] 23)).alloc (.cells #[.int .i64 y.k, .int .i64 y.n, .string ⟨y.s.toArray⟩, .slice (some bb) y.l.length cap2] 26)) = w0 at *
  go_region
  go_wp2_with fail
  clear d0 d1 d2 d3 r0 r1 n0 n1 m1 m2
  clear cX0 cX1 cX2 cX3 lX
  clear cE0 cE1 cE2 cE3 cE4 fE0 fE1 fE2 fE3 fE4 lE
  clear cY0 cY1 cY2 cY3 lY
  have hb1 : Below w.heap.size w (((((w0.setCell ⟨w.heap.size + 1 + 1, 0, none⟩ (.int .i64 2)).setCell ⟨w.heap.size + 1 + 1, 1, none⟩ (.string ⟨#[]⟩)).setCell ⟨w.heap.size + 1 + 1, 2, none⟩ (.string ⟨#[]⟩)).setCell ⟨w.heap.size + 1 + 1, 3, none⟩ (.int .i64 z0.n)).setCell ⟨w.heap.size + 1 + 1, 4, none⟩ (.int .i64 z1.n)).drew := (below_sets5 (B := w.heap.size + 1 + 1) hb (by omega) _ _ _ _ _).drew
  have bX_ : Blk (((((w0.setCell ⟨w.heap.size + 1 + 1, 0, none⟩ (.int .i64 2)).setCell ⟨w.heap.size + 1 + 1, 1, none⟩ (.string ⟨#[]⟩)).setCell ⟨w.heap.size + 1 + 1, 2, none⟩ (.string ⟨#[]⟩)).setCell ⟨w.heap.size + 1 + 1, 3, none⟩ (.int .i64 z0.n)).setCell ⟨w.heap.size + 1 + 1, 4, none⟩ (.int .i64 z1.n)).drew (w.heap.size) 26 #[.int .i64 x.k, .int .i64 x.n, .string ⟨x.s.toArray⟩, .slice (some a) x.l.length cap] := (Blk.sets5 (by omega) bX _ _ _ _ _).drew
  have bR_ : Blk (((((w0.setCell ⟨w.heap.size + 1 + 1, 0, none⟩ (.int .i64 2)).setCell ⟨w.heap.size + 1 + 1, 1, none⟩ (.string ⟨#[]⟩)).setCell ⟨w.heap.size + 1 + 1, 2, none⟩ (.string ⟨#[]⟩)).setCell ⟨w.heap.size + 1 + 1, 3, none⟩ (.int .i64 z0.n)).setCell ⟨w.heap.size + 1 + 1, 4, none⟩ (.int .i64 z1.n)).drew (w.heap.size + 1) 23 #[.int .i64 0, .string ⟨#[]⟩, .string ⟨#[]⟩, .int .i64 0, .int .i64 0] := (Blk.sets5 (by omega) bR _ _ _ _ _).drew
  have bE_ : Blk (((((w0.setCell ⟨w.heap.size + 1 + 1, 0, none⟩ (.int .i64 2)).setCell ⟨w.heap.size + 1 + 1, 1, none⟩ (.string ⟨#[]⟩)).setCell ⟨w.heap.size + 1 + 1, 2, none⟩ (.string ⟨#[]⟩)).setCell ⟨w.heap.size + 1 + 1, 3, none⟩ (.int .i64 z0.n)).setCell ⟨w.heap.size + 1 + 1, 4, none⟩ (.int .i64 z1.n)).drew (w.heap.size + 1 + 1) 23 #[.int .i64 2, .string ⟨#[]⟩, .string ⟨#[]⟩, .int .i64 z0.n, .int .i64 z1.n] := (bE.set5 _ _ _ _ _).drew
  have bY_ : Blk (((((w0.setCell ⟨w.heap.size + 1 + 1, 0, none⟩ (.int .i64 2)).setCell ⟨w.heap.size + 1 + 1, 1, none⟩ (.string ⟨#[]⟩)).setCell ⟨w.heap.size + 1 + 1, 2, none⟩ (.string ⟨#[]⟩)).setCell ⟨w.heap.size + 1 + 1, 3, none⟩ (.int .i64 z0.n)).setCell ⟨w.heap.size + 1 + 1, 4, none⟩ (.int .i64 z1.n)).drew (w.heap.size + 1 + 1 + 1) 26 #[.int .i64 y.k, .int .i64 y.n, .string ⟨y.s.toArray⟩, .slice (some bb) y.l.length cap2] := (Blk.sets5 (by omega) bY _ _ _ _ _).drew
  clear bX bR bE bY
  have bX := bX_
  clear bX_
  have bR := bR_
  clear bR_
  have bE := bE_
  clear bE_
  have bY := bY_
  clear bY_
  have hx1 := hx.below hb1
  clear hx0
  clear hb
  generalize (((((w0.setCell ⟨w.heap.size + 1 + 1, 0, none⟩ (.int .i64 2)).setCell ⟨w.heap.size + 1 + 1, 1, none⟩ (.string ⟨#[]⟩)).setCell ⟨w.heap.size + 1 + 1, 2, none⟩ (.string ⟨#[]⟩)).setCell ⟨w.heap.size + 1 + 1, 3, none⟩ (.int .i64 z0.n)).setCell ⟨w.heap.size + 1 + 1, 4, none⟩ (.int .i64 z1.n)).drew = w1 at *
  obtain ⟨cE0, cE1, cE2, cE3, cE4⟩ := bE.five
  have lE := bE.lt
  refine (rjItem_any 2 ⟨#[]⟩ ⟨#[]⟩ z0.n z1.n _ _ ((congrArg layI HSELF.out).trans HLY.out) w1 hn hv ra rb).mono ?_
  rintro e w2 ⟨⟨k1, m1, s1, p1, l1, c1, rfl, hI⟩, hc2⟩
  have hb2 := hb1.trans (hc2.mono hb1.size)
  replace bX := bX.here hc2
  replace bR := bR.here hc2
  replace bE := bE.here hc2
  replace bY := bY.here hc2
  have hx2 := hx1.below hc2
  clear hx1
  clear hc2 hb1
  clear cE0 cE1 cE2 cE3 cE4 lE
  have hc3 : Below w2.heap.size w2 (w2.alloc (.cells #[.int .i64 k1, .int .i64 m1, .string s1, .slice p1 l1 c1] 26)) := (Below.refl _ _).alloc (Nat.le_refl _) _
  have bO : Blk (w2.alloc (.cells #[.int .i64 k1, .int .i64 m1, .string s1, .slice p1 l1 c1] 26)) w2.heap.size 26 #[.int .i64 k1, .int .i64 m1, .string s1, .slice p1 l1 c1] := Blk.new _ _ _
  have hb3 := hb2.trans (hc3.mono hb2.size)
  replace bX := bX.here hc3
  replace bR := bR.here hc3
  replace bE := bE.here hc3
  replace bY := bY.here hc3
  have hx3 := hx2.below hc3
  clear hx2
  have hI3 := hI.below hc3
  clear hc3 hb2
  obtain ⟨cO0, cO1, cO2, cO3⟩ := bO.four
  have lO := bO.lt
  obtain ⟨cX0, cX1, cX2, cX3⟩ := bX.four
  have lX := bX.lt
  go_wp2_with fail
  generalize (w2.alloc (.cells #[.int .i64 k1, .int .i64 m1, .string s1, .slice p1 l1 c1] 26)) = w3 at *
  refine (rsame_any _ ok 3 (itmN o) x _ _ w3 (itm_dep _) hI3 hx3).mono ?_
  rintro e w4 ⟨rfl, hc4⟩
  have hb4 := hb3.trans (hc4.mono hb3.size)
  replace bX := bX.here hc4
  replace bR := bR.here hc4
  replace bE := bE.here hc4
  replace bY := bY.here hc4
  replace bO := bO.here hc4
  have hx4 := hx3.below hc4
  clear hx3
  have hI4 := hI3.below hc4
  clear hI3
  clear hc4 hb3
  rw [HS2.out]
  clear cO0 cO1 cO2 cO3 lO
  clear cX0 cX1 cX2 cX3 lX
  obtain ⟨cR0, cR1, cR2, cR3, cR4⟩ := bR.five
  have fR0 := bR.frozen 0
  have fR1 := bR.frozen 1
  have fR2 := bR.frozen 2
  have fR3 := bR.frozen 3
  have fR4 := bR.frozen 4
  have lR := bR.lt
  go_wp2_with fail
  refine bodyPost_ret (res_name2 (bR.set5 _ _ _ _ _) rfl rfl rfl) rfl ⟨rfl, below_sets5 hb4 (by omega) _ _ _ _ _⟩

set_option maxRecDepth 100000 in
set_option maxHeartbeats 2000000 in
theorem rjName_L_same (ok : Nat → Prop) (x y z0 z1 : Itm) (v : Value) (o : Nm) (hoe : o = ⟨2, [], [], z0.n, z1.n⟩) (hlen : x.l.length = 2) (hy : x.l[1]? = some y) (hk : y.k = 4) (hlen2 : y.l.length = 2) (hz0 : y.l[0]? = some z0) (hz1 : y.l[1]? = some z1) (hr : nmR o = true) (hb2 : sameB (itmN o) x = true) (w : World) (hx : ItV ok w x v) (ra : I64 z0.n) (rb : I64 z1.n) :
    Calls Tryz.prog 14 #[v] w fun e w' => e = .returned (.tuple #[.agg #[.int .i64 2, .string ⟨#[]⟩, .string ⟨#[]⟩, .int .i64 z0.n, .int .i64 z1.n], .int .i64 0]) ∧ Below w.heap.size w w' := by
  obtain ⟨p, cap, rfl, hcap, hits, -, -, -⟩ := id hx.parts
  have hy' : x.l[1]? = some y := hy
  obtain ⟨a, c0, c1, c2, c3, rfl, hok, e0, e1, e2, e3, hvy⟩ := ItsV.reads x.l 1 y hits hy'
  obtain ⟨p2, cap2, he, -, hits2, -⟩ := hvy.parts
  simp only [Value.agg.injEq, Array.mk.injEq, List.cons.injEq, and_true] at he
  obtain ⟨rfl, rfl, rfl, rfl⟩ := he
  have g1 : ((x.l.length : Int) == 2) = true := by simp; omega
  have g2 : (x.l.length == 2) = true := by simpa using hlen
  have g3 : (1 : Int) < (x.l.length : Int) := by omega
  have g4 : 1 < x.l.length := by omega
  rw [show a.add (1 * 4) = ⟨a.block, a.off + 4, none⟩ from add_pos _ _ (by decide)] at e0 e1 e2 e3
  simp only at e1 e2 e3
  obtain ⟨bb, rfl, q0, q1⟩ := reads_n hits2 hz0 hz1
  have g10 : ((y.l.length : Int) == 2) = true := by simp; omega
  have g11 : (y.l.length == 2) = true := by simpa using hlen2
  have g12 : (1 : Int) < (y.l.length : Int) := by omega
  have g13 : (0 : Int) < (y.l.length : Int) := by omega
  have g14 : 1 < y.l.length := by omega
  have g15 : 0 < y.l.length := by omega
  clear hits2 hz0 hz1 hlen2
  have HVY := Lib.hid hvy
  have HLEN := Lib.hid hlen
  clear hy hy' hits hvy hcap hlen
  have HLY := Lib.hid (show layI o = (itmN o, 0) by unfold layI; rw [hr]; rfl)
  clear hr
  have HS2 := Lib.hid hb2
  clear hb2
  have HSELF := Lib.hid (show nmO 2 ⟨#[]⟩ ⟨#[]⟩ z0.n z1.n = o by rw [hoe]; rfl)
  have hn : (⟨#[]⟩ : ByteArray).size ≤ 4000000000 := by decide
  have hv : (⟨#[]⟩ : ByteArray).size ≤ 4000000000 := by decide
  clear hoe
  have g5 : (y.k == 3) = false := by simp [hk]
  have g6 : (y.k == 4) = true := by simp [hk]
  clear hk
  have bR_ := Blk.new (w.alloc (.cells #[.int .i64 x.k, .int .i64 x.n, .string ⟨x.s.toArray⟩, .slice (some a) x.l.length cap] 26)) 23 #[.int .i64 0, .string ⟨#[]⟩, .string ⟨#[]⟩, .int .i64 0, .int .i64 0]
  simp only [World.size_alloc] at bR_
  have bE_ := Blk.new ((w.alloc (.cells #[.int .i64 x.k, .int .i64 x.n, .string ⟨x.s.toArray⟩, .slice (some a) x.l.length cap] 26)).alloc (.cells #[.int .i64 0, .string ⟨#[]⟩, .string ⟨#[]⟩, .int .i64 0, .int .i64 0] 23)) 23 #[.int .i64 0, .string ⟨#[]⟩, .string ⟨#[]⟩, .int .i64 0, .int .i64 0]
  simp only [World.size_alloc] at bE_
  have bY_ := Blk.new (((w.alloc (.cells #[.int .i64 x.k, .int .i64 x.n, .string ⟨x.s.toArray⟩, .slice (some a) x.l.length cap] 26)).alloc (.cells #[.int .i64 0, .string ⟨#[]⟩, .string ⟨#[]⟩, .int .i64 0, .int .i64 0] 23)).alloc (.cells #[.int .i64 0, .string ⟨#[]⟩, .string ⟨#[]⟩, .int .i64 0, .int .i64 0] 23)) 26 #[.int .i64 y.k, .int .i64 y.n, .string ⟨y.s.toArray⟩, .slice (some bb) y.l.length cap2]
  simp only [World.size_alloc] at bY_
  have bX : Blk ((((w.alloc (.cells #[.int .i64 x.k, .int .i64 x.n, .string ⟨x.s.toArray⟩, .slice (some a) x.l.length cap] 26)).alloc (.cells #[.int .i64 0, .string ⟨#[]⟩, .string ⟨#[]⟩, .int .i64 0, .int .i64 0] 23)).alloc (.cells #[.int .i64 0, .string ⟨#[]⟩, .string ⟨#[]⟩, .int .i64 0, .int .i64 0] 23)).alloc (.cells #[.int .i64 y.k, .int .i64 y.n, .string ⟨y.s.toArray⟩, .slice (some bb) y.l.length cap2] 26)) (w.heap.size) 26 #[.int .i64 x.k, .int .i64 x.n, .string ⟨x.s.toArray⟩, .slice (some a) x.l.length cap] := (((Blk.new w _ _).alloc _).alloc _).alloc _
  have bR : Blk ((((w.alloc (.cells #[.int .i64 x.k, .int .i64 x.n, .string ⟨x.s.toArray⟩, .slice (some a) x.l.length cap] 26)).alloc (.cells #[.int .i64 0, .string ⟨#[]⟩, .string ⟨#[]⟩, .int .i64 0, .int .i64 0] 23)).alloc (.cells #[.int .i64 0, .string ⟨#[]⟩, .string ⟨#[]⟩, .int .i64 0, .int .i64 0] 23)).alloc (.cells #[.int .i64 y.k, .int .i64 y.n, .string ⟨y.s.toArray⟩, .slice (some bb) y.l.length cap2] 26)) (w.heap.size + 1) 23 #[.int .i64 0, .string ⟨#[]⟩, .string ⟨#[]⟩, .int .i64 0, .int .i64 0] := ((bR_).alloc _).alloc _
  have bE : Blk ((((w.alloc (.cells #[.int .i64 x.k, .int .i64 x.n, .string ⟨x.s.toArray⟩, .slice (some a) x.l.length cap] 26)).alloc (.cells #[.int .i64 0, .string ⟨#[]⟩, .string ⟨#[]⟩, .int .i64 0, .int .i64 0] 23)).alloc (.cells #[.int .i64 0, .string ⟨#[]⟩, .string ⟨#[]⟩, .int .i64 0, .int .i64 0] 23)).alloc (.cells #[.int .i64 y.k, .int .i64 y.n, .string ⟨y.s.toArray⟩, .slice (some bb) y.l.length cap2] 26)) (w.heap.size + 1 + 1) 23 #[.int .i64 0, .string ⟨#[]⟩, .string ⟨#[]⟩, .int .i64 0, .int .i64 0] := (bE_).alloc _
  have bY : Blk ((((w.alloc (.cells #[.int .i64 x.k, .int .i64 x.n, .string ⟨x.s.toArray⟩, .slice (some a) x.l.length cap] 26)).alloc (.cells #[.int .i64 0, .string ⟨#[]⟩, .string ⟨#[]⟩, .int .i64 0, .int .i64 0] 23)).alloc (.cells #[.int .i64 0, .string ⟨#[]⟩, .string ⟨#[]⟩, .int .i64 0, .int .i64 0] 23)).alloc (.cells #[.int .i64 y.k, .int .i64 y.n, .string ⟨y.s.toArray⟩, .slice (some bb) y.l.length cap2] 26)) (w.heap.size + 1 + 1 + 1) 26 #[.int .i64 y.k, .int .i64 y.n, .string ⟨y.s.toArray⟩, .slice (some bb) y.l.length cap2] := bY_
  have hb : Below w.heap.size w ((((w.alloc (.cells #[.int .i64 x.k, .int .i64 x.n, .string ⟨x.s.toArray⟩, .slice (some a) x.l.length cap] 26)).alloc (.cells #[.int .i64 0, .string ⟨#[]⟩, .string ⟨#[]⟩, .int .i64 0, .int .i64 0] 23)).alloc (.cells #[.int .i64 0, .string ⟨#[]⟩, .string ⟨#[]⟩, .int .i64 0, .int .i64 0] 23)).alloc (.cells #[.int .i64 y.k, .int .i64 y.n, .string ⟨y.s.toArray⟩, .slice (some bb) y.l.length cap2] 26)) := (((((Below.refl _ w).alloc (Nat.le_refl _) _).alloc (by simp; try omega) _).alloc (by simp; try omega) _).alloc (by simp; try omega) _)
  have hx0 := hx.below hb
  clear bR_
  clear bE_
  clear bY_
  have h3 : Below w.heap.size w (((w.alloc (.cells #[.int .i64 x.k, .int .i64 x.n, .string ⟨x.s.toArray⟩, .slice (some a) x.l.length cap] 26)).alloc (.cells #[.int .i64 0, .string ⟨#[]⟩, .string ⟨#[]⟩, .int .i64 0, .int .i64 0] 23)).alloc (.cells #[.int .i64 0, .string ⟨#[]⟩, .string ⟨#[]⟩, .int .i64 0, .int .i64 0] 23)) := (((Below.refl _ w).alloc (Nat.le_refl _) _).alloc (by simp; try omega) _).alloc (by simp; try omega) _
  have d0 := (h3.cell (World.block_lt_of_cell? _ _ e0)).trans e0
  have d1 := (h3.cell (World.block_lt_of_cell? _ _ e1)).trans e1
  have d2 := (h3.cell (World.block_lt_of_cell? _ _ e2)).trans e2
  have d3 := (h3.cell (World.block_lt_of_cell? _ _ e3)).trans e3
  have r0 := (hb.cell (World.block_lt_of_cell? _ _ q0)).trans q0
  have n0 := World.block_lt_of_cell? _ _ q0
  simp only at n0
  have r1 := (hb.cell (World.block_lt_of_cell? _ _ q1)).trans q1
  have n1 := World.block_lt_of_cell? _ _ q1
  simp only at n1
  clear h3 e0 e1 e2 e3 q0 q1
  obtain ⟨cX0, cX1, cX2, cX3⟩ := bX.four
  have lX := bX.lt
  obtain ⟨cE0, cE1, cE2, cE3, cE4⟩ := bE.five
  have fE0 := bE.frozen 0
  have fE1 := bE.frozen 1
  have fE2 := bE.frozen 2
  have fE3 := bE.frozen 3
  have fE4 := bE.frozen 4
  have lE := bE.lt
  obtain ⟨cY0, cY1, cY2, cY3⟩ := bY.four
  have lY := bY.lt
  have m1 : bb.block ≠ w.heap.size + 1 + 1 := by omega
  have m2 := m1.symm
  go_enter Tryz.func14, Tryz.ntmps14
  go_wp2_with fail
  generalize ((((w.alloc (.cells #[.int .i64 x.k, .int .i64 x.n, .string ⟨x.s.toArray⟩, .slice (some a) x.l.length cap] 26)).alloc (.cells #[.int .i64 0, .string ⟨#[]⟩, .string ⟨#[]⟩, .int .i64 0, .int .i64 0] 23)).alloc (.cells #[.int .i64 0, .string ⟨#[]⟩, .string ⟨#[]⟩, .int .i64 0, .int .i64 0] 23)).alloc (.cells #[.int .i64 y.k, .int .i64 y.n, .string ⟨y.s.toArray⟩, .slice (some bb) y.l.length cap2] 26)) = w0 at *
  go_region
  go_wp2_with fail
  clear d0 d1 d2 d3 r0 r1 n0 n1 m1 m2
  clear cX0 cX1 cX2 cX3 lX
  clear cE0 cE1 cE2 cE3 cE4 fE0 fE1 fE2 fE3 fE4 lE
  clear cY0 cY1 cY2 cY3 lY
  have hb1 : Below w.heap.size w (((((w0.setCell ⟨w.heap.size + 1 + 1, 0, none⟩ (.int .i64 2)).setCell ⟨w.heap.size + 1 + 1, 1, none⟩ (.string ⟨#[]⟩)).setCell ⟨w.heap.size + 1 + 1, 2, none⟩ (.string ⟨#[]⟩)).setCell ⟨w.heap.size + 1 + 1, 3, none⟩ (.int .i64 z0.n)).setCell ⟨w.heap.size + 1 + 1, 4, none⟩ (.int .i64 z1.n)).drew := (below_sets5 (B := w.heap.size + 1 + 1) hb (by omega) _ _ _ _ _).drew
  have bX_ : Blk (((((w0.setCell ⟨w.heap.size + 1 + 1, 0, none⟩ (.int .i64 2)).setCell ⟨w.heap.size + 1 + 1, 1, none⟩ (.string ⟨#[]⟩)).setCell ⟨w.heap.size + 1 + 1, 2, none⟩ (.string ⟨#[]⟩)).setCell ⟨w.heap.size + 1 + 1, 3, none⟩ (.int .i64 z0.n)).setCell ⟨w.heap.size + 1 + 1, 4, none⟩ (.int .i64 z1.n)).drew (w.heap.size) 26 #[.int .i64 x.k, .int .i64 x.n, .string ⟨x.s.toArray⟩, .slice (some a) x.l.length cap] := (Blk.sets5 (by omega) bX _ _ _ _ _).drew
  have bR_ : Blk (((((w0.setCell ⟨w.heap.size + 1 + 1, 0, none⟩ (.int .i64 2)).setCell ⟨w.heap.size + 1 + 1, 1, none⟩ (.string ⟨#[]⟩)).setCell ⟨w.heap.size + 1 + 1, 2, none⟩ (.string ⟨#[]⟩)).setCell ⟨w.heap.size + 1 + 1, 3, none⟩ (.int .i64 z0.n)).setCell ⟨w.heap.size + 1 + 1, 4, none⟩ (.int .i64 z1.n)).drew (w.heap.size + 1) 23 #[.int .i64 0, .string ⟨#[]⟩, .string ⟨#[]⟩, .int .i64 0, .int .i64 0] := (Blk.sets5 (by omega) bR _ _ _ _ _).drew
  have bE_ : Blk (((((w0.setCell ⟨w.heap.size + 1 + 1, 0, none⟩ (.int .i64 2)).setCell ⟨w.heap.size + 1 + 1, 1, none⟩ (.string ⟨#[]⟩)).setCell ⟨w.heap.size + 1 + 1, 2, none⟩ (.string ⟨#[]⟩)).setCell ⟨w.heap.size + 1 + 1, 3, none⟩ (.int .i64 z0.n)).setCell ⟨w.heap.size + 1 + 1, 4, none⟩ (.int .i64 z1.n)).drew (w.heap.size + 1 + 1) 23 #[.int .i64 2, .string ⟨#[]⟩, .string ⟨#[]⟩, .int .i64 z0.n, .int .i64 z1.n] := (bE.set5 _ _ _ _ _).drew
  have bY_ : Blk (((((w0.setCell ⟨w.heap.size + 1 + 1, 0, none⟩ (.int .i64 2)).setCell ⟨w.heap.size + 1 + 1, 1, none⟩ (.string ⟨#[]⟩)).setCell ⟨w.heap.size + 1 + 1, 2, none⟩ (.string ⟨#[]⟩)).setCell ⟨w.heap.size + 1 + 1, 3, none⟩ (.int .i64 z0.n)).setCell ⟨w.heap.size + 1 + 1, 4, none⟩ (.int .i64 z1.n)).drew (w.heap.size + 1 + 1 + 1) 26 #[.int .i64 y.k, .int .i64 y.n, .string ⟨y.s.toArray⟩, .slice (some bb) y.l.length cap2] := (Blk.sets5 (by omega) bY _ _ _ _ _).drew
  clear bX bR bE bY
  have bX := bX_
  clear bX_
  have bR := bR_
  clear bR_
  have bE := bE_
  clear bE_
  have bY := bY_
  clear bY_
  have hx1 := hx.below hb1
  clear hx0
  clear hb
  generalize (((((w0.setCell ⟨w.heap.size + 1 + 1, 0, none⟩ (.int .i64 2)).setCell ⟨w.heap.size + 1 + 1, 1, none⟩ (.string ⟨#[]⟩)).setCell ⟨w.heap.size + 1 + 1, 2, none⟩ (.string ⟨#[]⟩)).setCell ⟨w.heap.size + 1 + 1, 3, none⟩ (.int .i64 z0.n)).setCell ⟨w.heap.size + 1 + 1, 4, none⟩ (.int .i64 z1.n)).drew = w1 at *
  obtain ⟨cE0, cE1, cE2, cE3, cE4⟩ := bE.five
  have lE := bE.lt
  refine (rjItem_any 2 ⟨#[]⟩ ⟨#[]⟩ z0.n z1.n _ _ ((congrArg layI HSELF.out).trans HLY.out) w1 hn hv ra rb).mono ?_
  rintro e w2 ⟨⟨k1, m1, s1, p1, l1, c1, rfl, hI⟩, hc2⟩
  have hb2 := hb1.trans (hc2.mono hb1.size)
  replace bX := bX.here hc2
  replace bR := bR.here hc2
  replace bE := bE.here hc2
  replace bY := bY.here hc2
  have hx2 := hx1.below hc2
  clear hx1
  clear hc2 hb1
  clear cE0 cE1 cE2 cE3 cE4 lE
  have hc3 : Below w2.heap.size w2 (w2.alloc (.cells #[.int .i64 k1, .int .i64 m1, .string s1, .slice p1 l1 c1] 26)) := (Below.refl _ _).alloc (Nat.le_refl _) _
  have bO : Blk (w2.alloc (.cells #[.int .i64 k1, .int .i64 m1, .string s1, .slice p1 l1 c1] 26)) w2.heap.size 26 #[.int .i64 k1, .int .i64 m1, .string s1, .slice p1 l1 c1] := Blk.new _ _ _
  have hb3 := hb2.trans (hc3.mono hb2.size)
  replace bX := bX.here hc3
  replace bR := bR.here hc3
  replace bE := bE.here hc3
  replace bY := bY.here hc3
  have hx3 := hx2.below hc3
  clear hx2
  have hI3 := hI.below hc3
  clear hc3 hb2
  obtain ⟨cO0, cO1, cO2, cO3⟩ := bO.four
  have lO := bO.lt
  obtain ⟨cX0, cX1, cX2, cX3⟩ := bX.four
  have lX := bX.lt
  go_wp2_with fail
  generalize (w2.alloc (.cells #[.int .i64 k1, .int .i64 m1, .string s1, .slice p1 l1 c1] 26)) = w3 at *
  refine (rsame_any _ ok 3 (itmN o) x _ _ w3 (itm_dep _) hI3 hx3).mono ?_
  rintro e w4 ⟨rfl, hc4⟩
  have hb4 := hb3.trans (hc4.mono hb3.size)
  replace bX := bX.here hc4
  replace bR := bR.here hc4
  replace bE := bE.here hc4
  replace bY := bY.here hc4
  replace bO := bO.here hc4
  have hx4 := hx3.below hc4
  clear hx3
  have hI4 := hI3.below hc4
  clear hI3
  clear hc4 hb3
  rw [HS2.out]
  clear cO0 cO1 cO2 cO3 lO
  clear cX0 cX1 cX2 cX3 lX
  obtain ⟨cR0, cR1, cR2, cR3, cR4⟩ := bR.five
  have fR0 := bR.frozen 0
  have fR1 := bR.frozen 1
  have fR2 := bR.frozen 2
  have fR3 := bR.frozen 3
  have fR4 := bR.frozen 4
  have lR := bR.lt
  obtain ⟨cE0, cE1, cE2, cE3, cE4⟩ := bE.five
  have lE := bE.lt
  go_wp2_with fail
  refine bodyPost_ret (res_name2 (bR.set5 _ _ _ _ _) rfl rfl rfl) rfl ⟨rfl, below_sets5 hb4 (by omega) _ _ _ _ _⟩

end Go.Proofs.YtmbmolgkccjedaaGreatDoor
