/- The document's Name (package postriderref10). -/
import Derived.Test.YtmbmolgkccjedaaGreatDoorM26
set_option linter.unusedVariables false
set_option linter.unusedSimpArgs false
namespace Go.Proofs.YtmbmolgkccjedaaGreatDoor
open Go.RowKit
attribute [local go_sem ↓] Go.wp_at_zero Go.wp_at_succ

/-- A name, read roughly of an item, as the document does. -/
def rgR (x : Itm) : Nm :=
  if x.l.length = 2 then
    if (prt x 1).k = 3 then (jnR [100, 116, 110] (prt x 1).s).getD nm0
    else if (prt x 1).k = 4 ∧ (prt x 1).l.length = 2 then ⟨2, [], [], (prt (prt x 1) 0).n, (prt (prt x 1) 1).n⟩
    else nm0
  else nm0
theorem rgR_itm {e : Nm} (h : nmR e = true) : rgR (itmN e) = e := by
  have h1 := rgI_itm h
  have h2 : rgR (itmN e) = rgI (itmN e) := by
    rcases itm_ways h with ⟨_, e1⟩ | ⟨_, e1, _⟩ | ⟨A, B, _, e1, _⟩
    · rw [e1]; rfl
    · rw [e1]; rfl
    · rw [e1]; rfl
  rw [h2, h1]
theorem nmI_rgR (x : Itm) : nmI x = if nmR (rgR x) = true ∧ sameB (itmN (rgR x)) x = true then some (rgR x) else none :=
  nmI_rough fun e he hx => by rw [← hx, rgR_itm he]
theorem rdX_rgR (x : Itm) : (nmW (rdX (rgR x) x).1, (rdX (rgR x) x).2) = (nmX (nmI x), erX (nmI x)) := by
  rw [nmI_rgR]
  unfold rdX nmX erX
  by_cases h1 : nmR (rgR x) = true
  · by_cases h2 : sameB (itmN (rgR x)) x = true
    · rw [if_pos h1, if_pos h2, if_pos ⟨h1, h2⟩]; rfl
    · rw [if_pos h1, if_neg h2, if_neg (fun h => h2 h.2)]; rfl
  · rw [if_neg h1, if_neg (fun h => h1 h.1)]; rfl
theorem rgR_i64 {ok : Nat → Prop} {W : World} {x : Itm} {v : Value} (h : ItV ok W x v) : I64 (rgR x).a ∧ I64 (rgR x).b := by
  have z : I64 (0 : Int) := by unfold I64; decide
  unfold rgR
  split
  · split
    · exact jn_i64 _ _
    · split
      · obtain ⟨u, hu⟩ := prt_itv h 1
        obtain ⟨u0, h0⟩ := prt_itv hu 0
        obtain ⟨u1, h1⟩ := prt_itv hu 1
        exact ⟨itv_n64 h0, itv_n64 h1⟩
      · exact ⟨z, z⟩
  · exact ⟨z, z⟩
theorem rgR_len (x : Itm) : (rgR x).node.length ≤ 4000000000 ∧ (rgR x).serv.length ≤ 4000000000 := by
  have hj : ∀ s t, ((jnR s t).getD nm0).node.length ≤ 4000000000 ∧ ((jnR s t).getD nm0).serv.length ≤ 4000000000 := fun s t => by
    cases h : jnR s t with
    | none => exact ⟨Nat.zero_le _, Nat.zero_le _⟩
    | some e =>
      obtain ⟨h1, _⟩ := jnR_back h
      rcases nmR_cases h1 with rfl | ⟨_, _, h3, h4, _⟩ | ⟨A, B, rfl, _⟩
      · exact ⟨Nat.zero_le _, Nat.zero_le _⟩
      · have := (prt_txt _ h3).2
        have := (prt_txt _ h4).2
        exact ⟨by show e.node.length ≤ _; omega, by show e.serv.length ≤ _; omega⟩
      · exact ⟨Nat.zero_le _, Nat.zero_le _⟩
  unfold rgR
  split
  · split
    · exact hj _ _
    · split
      · exact ⟨Nat.zero_le _, Nat.zero_le _⟩
      · exact ⟨Nat.zero_le _, Nat.zero_le _⟩
  · exact ⟨Nat.zero_le _, Nat.zero_le _⟩

set_option maxRecDepth 100000 in
set_option maxHeartbeats 2000000 in
theorem rjName_A_diff (ok : Nat → Prop) (x : Itm) (v : Value) (hlen : x.l.length ≠ 2) (hr : nmR nm0 = true) (hb2 : sameB (itmN nm0) x = false) (w : World) (hx : ItV ok w x v) :
    Calls Tryz.prog 14 #[v] w fun e w' => e = .returned (.tuple #[.agg #[.int .i64 0, .string ⟨#[]⟩, .string ⟨#[]⟩, .int .i64 0, .int .i64 0], .int .i64 60]) ∧ Below w.heap.size w w' := by
  obtain ⟨p, cap, rfl, -, -, -, -, -⟩ := id hx.parts
  have HLY := Lib.hid (show layI nm0 = (itmN nm0, 0) by unfold layI; rw [hr]; rfl)
  clear hr
  have HS2 := Lib.hid hb2
  clear hb2
  have ra : I64 (0 : Int) := by unfold I64; decide
  have rb : I64 (0 : Int) := ra
  have hn : (⟨#[]⟩ : ByteArray).size ≤ 4000000000 := by decide
  have hv : (⟨#[]⟩ : ByteArray).size ≤ 4000000000 := by decide
  have g1 : ((x.l.length : Int) == 2) = false := by simp; omega
  have g2 : (x.l.length == 2) = false := by simpa using hlen
  have bR_ := Blk.new (w.alloc (.cells #[.int .i64 x.k, .int .i64 x.n, .string ⟨x.s.toArray⟩, .slice p x.l.length cap] 26)) 23 #[.int .i64 0, .string ⟨#[]⟩, .string ⟨#[]⟩, .int .i64 0, .int .i64 0]
  simp only [World.size_alloc] at bR_
  have bE_ := Blk.new ((w.alloc (.cells #[.int .i64 x.k, .int .i64 x.n, .string ⟨x.s.toArray⟩, .slice p x.l.length cap] 26)).alloc (.cells #[.int .i64 0, .string ⟨#[]⟩, .string ⟨#[]⟩, .int .i64 0, .int .i64 0] 23)) 23 #[.int .i64 0, .string ⟨#[]⟩, .string ⟨#[]⟩, .int .i64 0, .int .i64 0]
  simp only [World.size_alloc] at bE_
  have bX : Blk (((w.alloc (.cells #[.int .i64 x.k, .int .i64 x.n, .string ⟨x.s.toArray⟩, .slice p x.l.length cap] 26)).alloc (.cells #[.int .i64 0, .string ⟨#[]⟩, .string ⟨#[]⟩, .int .i64 0, .int .i64 0] 23)).alloc (.cells #[.int .i64 0, .string ⟨#[]⟩, .string ⟨#[]⟩, .int .i64 0, .int .i64 0] 23)) (w.heap.size) 26 #[.int .i64 x.k, .int .i64 x.n, .string ⟨x.s.toArray⟩, .slice p x.l.length cap] := ((Blk.new w _ _).alloc _).alloc _
  have bR : Blk (((w.alloc (.cells #[.int .i64 x.k, .int .i64 x.n, .string ⟨x.s.toArray⟩, .slice p x.l.length cap] 26)).alloc (.cells #[.int .i64 0, .string ⟨#[]⟩, .string ⟨#[]⟩, .int .i64 0, .int .i64 0] 23)).alloc (.cells #[.int .i64 0, .string ⟨#[]⟩, .string ⟨#[]⟩, .int .i64 0, .int .i64 0] 23)) (w.heap.size + 1) 23 #[.int .i64 0, .string ⟨#[]⟩, .string ⟨#[]⟩, .int .i64 0, .int .i64 0] := (bR_).alloc _
  have bE : Blk (((w.alloc (.cells #[.int .i64 x.k, .int .i64 x.n, .string ⟨x.s.toArray⟩, .slice p x.l.length cap] 26)).alloc (.cells #[.int .i64 0, .string ⟨#[]⟩, .string ⟨#[]⟩, .int .i64 0, .int .i64 0] 23)).alloc (.cells #[.int .i64 0, .string ⟨#[]⟩, .string ⟨#[]⟩, .int .i64 0, .int .i64 0] 23)) (w.heap.size + 1 + 1) 23 #[.int .i64 0, .string ⟨#[]⟩, .string ⟨#[]⟩, .int .i64 0, .int .i64 0] := bE_
  have hb : Below w.heap.size w (((w.alloc (.cells #[.int .i64 x.k, .int .i64 x.n, .string ⟨x.s.toArray⟩, .slice p x.l.length cap] 26)).alloc (.cells #[.int .i64 0, .string ⟨#[]⟩, .string ⟨#[]⟩, .int .i64 0, .int .i64 0] 23)).alloc (.cells #[.int .i64 0, .string ⟨#[]⟩, .string ⟨#[]⟩, .int .i64 0, .int .i64 0] 23)) := ((((Below.refl _ w).alloc (Nat.le_refl _) _).alloc (by simp; try omega) _).alloc (by simp; try omega) _)
  have hx0 := hx.below hb
  clear bR_
  clear bE_
  obtain ⟨cX0, cX1, cX2, cX3⟩ := bX.four
  have lX := bX.lt
  obtain ⟨cE0, cE1, cE2, cE3, cE4⟩ := bE.five
  have lE := bE.lt
  go_enter Tryz.func14, Tryz.ntmps14
  go_wp2_with fail
  generalize (((w.alloc (.cells #[.int .i64 x.k, .int .i64 x.n, .string ⟨x.s.toArray⟩, .slice p x.l.length cap] 26)).alloc (.cells #[.int .i64 0, .string ⟨#[]⟩, .string ⟨#[]⟩, .int .i64 0, .int .i64 0] 23)).alloc (.cells #[.int .i64 0, .string ⟨#[]⟩, .string ⟨#[]⟩, .int .i64 0, .int .i64 0] 23)) = w0 at *
  clear cX0 cX1 cX2 cX3 lX
  refine (rjItem_any 0 ⟨#[]⟩ ⟨#[]⟩ 0 0 _ _ HLY.out w0 hn hv ra rb).mono ?_
  rintro e w1 ⟨⟨k1, m1, s1, p1, l1, c1, rfl, hI⟩, hc1⟩
  have hb1 := hb.trans (hc1.mono hb.size)
  replace bX := bX.here hc1
  replace bR := bR.here hc1
  replace bE := bE.here hc1
  have hx1 := hx0.below hc1
  clear hx0
  clear hc1 hb
  clear cE0 cE1 cE2 cE3 cE4 lE
  have hc2 : Below w1.heap.size w1 (w1.alloc (.cells #[.int .i64 k1, .int .i64 m1, .string s1, .slice p1 l1 c1] 26)) := (Below.refl _ _).alloc (Nat.le_refl _) _
  have bO : Blk (w1.alloc (.cells #[.int .i64 k1, .int .i64 m1, .string s1, .slice p1 l1 c1] 26)) w1.heap.size 26 #[.int .i64 k1, .int .i64 m1, .string s1, .slice p1 l1 c1] := Blk.new _ _ _
  have hb2 := hb1.trans (hc2.mono hb1.size)
  replace bX := bX.here hc2
  replace bR := bR.here hc2
  replace bE := bE.here hc2
  have hx2 := hx1.below hc2
  clear hx1
  have hI2 := hI.below hc2
  clear hc2 hb1
  obtain ⟨cO0, cO1, cO2, cO3⟩ := bO.four
  have lO := bO.lt
  obtain ⟨cX0, cX1, cX2, cX3⟩ := bX.four
  have lX := bX.lt
  go_wp2_with fail
  generalize (w1.alloc (.cells #[.int .i64 k1, .int .i64 m1, .string s1, .slice p1 l1 c1] 26)) = w2 at *
  refine (rsame_any _ ok 3 (itmN nm0) x _ _ w2 (itm_dep nm0) hI2 hx2).mono ?_
  rintro e w3 ⟨rfl, hc3⟩
  have hb3 := hb2.trans (hc3.mono hb2.size)
  replace bX := bX.here hc3
  replace bR := bR.here hc3
  replace bE := bE.here hc3
  replace bO := bO.here hc3
  have hx3 := hx2.below hc3
  clear hx2
  have hI3 := hI2.below hc3
  clear hI2
  clear hc3 hb2
  rw [HS2.out]
  clear cO0 cO1 cO2 cO3 lO
  clear cX0 cX1 cX2 cX3 lX
  obtain ⟨cR0, cR1, cR2, cR3, cR4⟩ := bR.five
  have fR0 := bR.frozen 0
  have fR1 := bR.frozen 1
  have fR2 := bR.frozen 2
  have fR3 := bR.frozen 3
  have fR4 := bR.frozen 4
  have lR := bR.lt
  go_wp2_with fail
  refine bodyPost_ret (res_name2 (bR.set5 _ _ _ _ _) rfl rfl rfl) rfl ⟨rfl, below_sets5 hb3 (by omega) _ _ _ _ _⟩

set_option maxRecDepth 100000 in
set_option maxHeartbeats 2000000 in
theorem rjName_A_same (ok : Nat → Prop) (x : Itm) (v : Value) (hlen : x.l.length ≠ 2) (hr : nmR nm0 = true) (hb2 : sameB (itmN nm0) x = true) (w : World) (hx : ItV ok w x v) :
    Calls Tryz.prog 14 #[v] w fun e w' => e = .returned (.tuple #[.agg #[.int .i64 0, .string ⟨#[]⟩, .string ⟨#[]⟩, .int .i64 0, .int .i64 0], .int .i64 0]) ∧ Below w.heap.size w w' := by
  obtain ⟨p, cap, rfl, -, -, -, -, -⟩ := id hx.parts
  have HLY := Lib.hid (show layI nm0 = (itmN nm0, 0) by unfold layI; rw [hr]; rfl)
  clear hr
  have HS2 := Lib.hid hb2
  clear hb2
  have ra : I64 (0 : Int) := by unfold I64; decide
  have rb : I64 (0 : Int) := ra
  have hn : (⟨#[]⟩ : ByteArray).size ≤ 4000000000 := by decide
  have hv : (⟨#[]⟩ : ByteArray).size ≤ 4000000000 := by decide
  have g1 : ((x.l.length : Int) == 2) = false := by simp; omega
  have g2 : (x.l.length == 2) = false := by simpa using hlen
  have bR_ := Blk.new (w.alloc (.cells #[.int .i64 x.k, .int .i64 x.n, .string ⟨x.s.toArray⟩, .slice p x.l.length cap] 26)) 23 #[.int .i64 0, .string ⟨#[]⟩, .string ⟨#[]⟩, .int .i64 0, .int .i64 0]
  simp only [World.size_alloc] at bR_
  have bE_ := Blk.new ((w.alloc (.cells #[.int .i64 x.k, .int .i64 x.n, .string ⟨x.s.toArray⟩, .slice p x.l.length cap] 26)).alloc (.cells #[.int .i64 0, .string ⟨#[]⟩, .string ⟨#[]⟩, .int .i64 0, .int .i64 0] 23)) 23 #[.int .i64 0, .string ⟨#[]⟩, .string ⟨#[]⟩, .int .i64 0, .int .i64 0]
  simp only [World.size_alloc] at bE_
  have bX : Blk (((w.alloc (.cells #[.int .i64 x.k, .int .i64 x.n, .string ⟨x.s.toArray⟩, .slice p x.l.length cap] 26)).alloc (.cells #[.int .i64 0, .string ⟨#[]⟩, .string ⟨#[]⟩, .int .i64 0, .int .i64 0] 23)).alloc (.cells #[.int .i64 0, .string ⟨#[]⟩, .string ⟨#[]⟩, .int .i64 0, .int .i64 0] 23)) (w.heap.size) 26 #[.int .i64 x.k, .int .i64 x.n, .string ⟨x.s.toArray⟩, .slice p x.l.length cap] := ((Blk.new w _ _).alloc _).alloc _
  have bR : Blk (((w.alloc (.cells #[.int .i64 x.k, .int .i64 x.n, .string ⟨x.s.toArray⟩, .slice p x.l.length cap] 26)).alloc (.cells #[.int .i64 0, .string ⟨#[]⟩, .string ⟨#[]⟩, .int .i64 0, .int .i64 0] 23)).alloc (.cells #[.int .i64 0, .string ⟨#[]⟩, .string ⟨#[]⟩, .int .i64 0, .int .i64 0] 23)) (w.heap.size + 1) 23 #[.int .i64 0, .string ⟨#[]⟩, .string ⟨#[]⟩, .int .i64 0, .int .i64 0] := (bR_).alloc _
  have bE : Blk (((w.alloc (.cells #[.int .i64 x.k, .int .i64 x.n, .string ⟨x.s.toArray⟩, .slice p x.l.length cap] 26)).alloc (.cells #[.int .i64 0, .string ⟨#[]⟩, .string ⟨#[]⟩, .int .i64 0, .int .i64 0] 23)).alloc (.cells #[.int .i64 0, .string ⟨#[]⟩, .string ⟨#[]⟩, .int .i64 0, .int .i64 0] 23)) (w.heap.size + 1 + 1) 23 #[.int .i64 0, .string ⟨#[]⟩, .string ⟨#[]⟩, .int .i64 0, .int .i64 0] := bE_
  have hb : Below w.heap.size w (((w.alloc (.cells #[.int .i64 x.k, .int .i64 x.n, .string ⟨x.s.toArray⟩, .slice p x.l.length cap] 26)).alloc (.cells #[.int .i64 0, .string ⟨#[]⟩, .string ⟨#[]⟩, .int .i64 0, .int .i64 0] 23)).alloc (.cells #[.int .i64 0, .string ⟨#[]⟩, .string ⟨#[]⟩, .int .i64 0, .int .i64 0] 23)) := ((((Below.refl _ w).alloc (Nat.le_refl _) _).alloc (by simp; try omega) _).alloc (by simp; try omega) _)
  have hx0 := hx.below hb
  clear bR_
  clear bE_
  obtain ⟨cX0, cX1, cX2, cX3⟩ := bX.four
  have lX := bX.lt
  obtain ⟨cE0, cE1, cE2, cE3, cE4⟩ := bE.five
  have lE := bE.lt
  go_enter Tryz.func14, Tryz.ntmps14
  go_wp2_with fail
  generalize (((w.alloc (.cells #[.int .i64 x.k, .int .i64 x.n, .string ⟨x.s.toArray⟩, .slice p x.l.length cap] 26)).alloc (.cells #[.int .i64 0, .string ⟨#[]⟩, .string ⟨#[]⟩, .int .i64 0, .int .i64 0] 23)).alloc (.cells #[.int .i64 0, .string ⟨#[]⟩, .string ⟨#[]⟩, .int .i64 0, .int .i64 0] 23)) = w0 at *
  clear cX0 cX1 cX2 cX3 lX
  refine (rjItem_any 0 ⟨#[]⟩ ⟨#[]⟩ 0 0 _ _ HLY.out w0 hn hv ra rb).mono ?_
  rintro e w1 ⟨⟨k1, m1, s1, p1, l1, c1, rfl, hI⟩, hc1⟩
  have hb1 := hb.trans (hc1.mono hb.size)
  replace bX := bX.here hc1
  replace bR := bR.here hc1
  replace bE := bE.here hc1
  have hx1 := hx0.below hc1
  clear hx0
  clear hc1 hb
  clear cE0 cE1 cE2 cE3 cE4 lE
  have hc2 : Below w1.heap.size w1 (w1.alloc (.cells #[.int .i64 k1, .int .i64 m1, .string s1, .slice p1 l1 c1] 26)) := (Below.refl _ _).alloc (Nat.le_refl _) _
  have bO : Blk (w1.alloc (.cells #[.int .i64 k1, .int .i64 m1, .string s1, .slice p1 l1 c1] 26)) w1.heap.size 26 #[.int .i64 k1, .int .i64 m1, .string s1, .slice p1 l1 c1] := Blk.new _ _ _
  have hb2 := hb1.trans (hc2.mono hb1.size)
  replace bX := bX.here hc2
  replace bR := bR.here hc2
  replace bE := bE.here hc2
  have hx2 := hx1.below hc2
  clear hx1
  have hI2 := hI.below hc2
  clear hc2 hb1
  obtain ⟨cO0, cO1, cO2, cO3⟩ := bO.four
  have lO := bO.lt
  obtain ⟨cX0, cX1, cX2, cX3⟩ := bX.four
  have lX := bX.lt
  go_wp2_with fail
  generalize (w1.alloc (.cells #[.int .i64 k1, .int .i64 m1, .string s1, .slice p1 l1 c1] 26)) = w2 at *
  refine (rsame_any _ ok 3 (itmN nm0) x _ _ w2 (itm_dep nm0) hI2 hx2).mono ?_
  rintro e w3 ⟨rfl, hc3⟩
  have hb3 := hb2.trans (hc3.mono hb2.size)
  replace bX := bX.here hc3
  replace bR := bR.here hc3
  replace bE := bE.here hc3
  replace bO := bO.here hc3
  have hx3 := hx2.below hc3
  clear hx2
  have hI3 := hI2.below hc3
  clear hI2
  clear hc3 hb2
  rw [HS2.out]
  clear cO0 cO1 cO2 cO3 lO
  clear cX0 cX1 cX2 cX3 lX
  obtain ⟨cR0, cR1, cR2, cR3, cR4⟩ := bR.five
  have fR0 := bR.frozen 0
  have fR1 := bR.frozen 1
  have fR2 := bR.frozen 2
  have fR3 := bR.frozen 3
  have fR4 := bR.frozen 4
  have lR := bR.lt
  obtain ⟨cE0, cE1, cE2, cE3, cE4⟩ := bE.five
  have lE := bE.lt
  go_wp2_with fail
  refine bodyPost_ret (res_name2 (bR.set5 _ _ _ _ _) rfl rfl rfl) rfl ⟨rfl, below_sets5 hb3 (by omega) _ _ _ _ _⟩

set_option maxRecDepth 100000 in
set_option maxHeartbeats 2000000 in
theorem rjName_T_diff (ok : Nat → Prop) (x y : Itm) (v : Value) (o : Nm) (hlen : x.l.length = 2) (hy : x.l[1]? = some y) (hk : y.k = 3) (ho : (jnR [100, 116, 110] y.s).getD nm0 = o) (hsy : y.s.length ≤ 4000000000) (hn0 : o.node.length ≤ 4000000000) (hv0 : o.serv.length ≤ 4000000000) (hr : nmR o = true) (hb2 : sameB (itmN o) x = false) (w : World) (hx : ItV ok w x v) (ra : I64 o.a) (rb : I64 o.b) :
    Calls Tryz.prog 14 #[v] w fun e w' => e = .returned (.tuple #[.agg #[.int .i64 0, .string ⟨#[]⟩, .string ⟨#[]⟩, .int .i64 0, .int .i64 0], .int .i64 60]) ∧ Below w.heap.size w w' := by
  obtain ⟨p, cap, rfl, hcap, hits, -, -, -⟩ := id hx.parts
  have hy' : x.l[1]? = some y := hy
  obtain ⟨a, c0, c1, c2, c3, rfl, hok, e0, e1, e2, e3, hvy⟩ := ItsV.reads x.l 1 y hits hy'
  obtain ⟨p2, cap2, he, -⟩ := hvy.parts
  simp only [Value.agg.injEq, Array.mk.injEq, List.cons.injEq, and_true] at he
  obtain ⟨rfl, rfl, rfl, rfl⟩ := he
  have g1 : ((x.l.length : Int) == 2) = true := by simp; omega
  have g2 : (x.l.length == 2) = true := by simpa using hlen
  have g3 : (1 : Int) < (x.l.length : Int) := by omega
  have g4 : 1 < x.l.length := by omega
  rw [show a.add (1 * 4) = ⟨a.block, a.off + 4, none⟩ from add_pos _ _ (by decide)] at e0 e1 e2 e3
  simp only at e1 e2 e3
  have HVY := Lib.hid hvy
  have HLEN := Lib.hid hlen
  clear hy hy' hits hvy hcap hlen
  have HO := Lib.hid ho
  clear ho
  have HLY := Lib.hid (show layI o = (itmN o, 0) by unfold layI; rw [hr]; rfl)
  clear hr
  have HS2 := Lib.hid hb2
  clear hb2
  have HSELF := Lib.hid (nmO_self o)
  have hn : (⟨o.node.toArray⟩ : ByteArray).size ≤ 4000000000 := by show o.node.toArray.size ≤ _; rw [List.size_toArray]; exact hn0
  have hv : (⟨o.serv.toArray⟩ : ByteArray).size ≤ 4000000000 := by show o.serv.toArray.size ≤ _; rw [List.size_toArray]; exact hv0
  have hys : (⟨y.s.toArray⟩ : ByteArray).size ≤ 4000000000 := by show y.s.toArray.size ≤ _; rw [List.size_toArray]; exact hsy
  have bR_ := Blk.new (w.alloc (.cells #[.int .i64 x.k, .int .i64 x.n, .string ⟨x.s.toArray⟩, .slice (some a) x.l.length cap] 26)) 23 #[.int .i64 0, .string ⟨#[]⟩, .string ⟨#[]⟩, .int .i64 0, .int .i64 0]
  simp only [World.size_alloc] at bR_
  have bE_ := Blk.new ((w.alloc (.cells #[.int .i64 x.k, .int .i64 x.n, .string ⟨x.s.toArray⟩, .slice (some a) x.l.length cap] 26)).alloc (.cells #[.int .i64 0, .string ⟨#[]⟩, .string ⟨#[]⟩, .int .i64 0, .int .i64 0] 23)) 23 #[.int .i64 0, .string ⟨#[]⟩, .string ⟨#[]⟩, .int .i64 0, .int .i64 0]
  simp only [World.size_alloc] at bE_
  have bY_ := Blk.new (((w.alloc (.cells #[.int .i64 x.k, .int .i64 x.n, .string ⟨x.s.toArray⟩, .slice (some a) x.l.length cap] 26)).alloc (.cells #[.int .i64 0, .string ⟨#[]⟩, .string ⟨#[]⟩, .int .i64 0, .int .i64 0] 23)).alloc (.cells #[.int .i64 0, .string ⟨#[]⟩, .string ⟨#[]⟩, .int .i64 0, .int .i64 0] 23)) 26 #[.int .i64 y.k, .int .i64 y.n, .string ⟨y.s.toArray⟩, .slice p2 y.l.length cap2]
  simp only [World.size_alloc] at bY_
  have bX : Blk ((((w.alloc (.cells #[.int .i64 x.k, .int .i64 x.n, .string ⟨x.s.toArray⟩, .slice (some a) x.l.length cap] 26)).alloc (.cells #[.int .i64 0, .string ⟨#[]⟩, .string ⟨#[]⟩, .int .i64 0, .int .i64 0] 23)).alloc (.cells #[.int .i64 0, .string ⟨#[]⟩, .string ⟨#[]⟩, .int .i64 0, .int .i64 0] 23)).alloc (.cells #[.int .i64 y.k, .int .i64 y.n, .string ⟨y.s.toArray⟩, .slice p2 y.l.length cap2] 26)) (w.heap.size) 26 #[.int .i64 x.k, .int .i64 x.n, .string ⟨x.s.toArray⟩, .slice (some a) x.l.length cap] := (((Blk.new w _ _).alloc _).alloc _).alloc _
  have bR : Blk ((((w.alloc (.cells #[.int .i64 x.k, .int .i64 x.n, .string ⟨x.s.toArray⟩, .slice (some a) x.l.length cap] 26)).alloc (.cells #[.int .i64 0, .string ⟨#[]⟩, .string ⟨#[]⟩, .int .i64 0, .int .i64 0] 23)).alloc (.cells #[.int .i64 0, .string ⟨#[]⟩, .string ⟨#[]⟩, .int .i64 0, .int .i64 0] 23)).alloc (.cells #[.int .i64 y.k, .int .i64 y.n, .string ⟨y.s.toArray⟩, .slice p2 y.l.length cap2] 26)) (w.heap.size + 1) 23 #[.int .i64 0, .string ⟨#[]⟩, .string ⟨#[]⟩, .int .i64 0, .int .i64 0] := ((bR_).alloc _).alloc _
  have bE : Blk ((((w.alloc (.cells #[.int .i64 x.k, .int .i64 x.n, .string ⟨x.s.toArray⟩, .slice (some a) x.l.length cap] 26)).alloc (.cells #[.int .i64 0, .string ⟨#[]⟩, .string ⟨#[]⟩, .int .i64 0, .int .i64 0] 23)).alloc (.cells #[.int .i64 0, .string ⟨#[]⟩, .string ⟨#[]⟩, .int .i64 0, .int .i64 0] 23)).alloc (.cells #[.int .i64 y.k, .int .i64 y.n, .string ⟨y.s.toArray⟩, .slice p2 y.l.length cap2] 26)) (w.heap.size + 1 + 1) 23 #[.int .i64 0, .string ⟨#[]⟩, .string ⟨#[]⟩, .int .i64 0, .int .i64 0] := (bE_).alloc _
  have bY : Blk ((((w.alloc (.cells #[.int .i64 x.k, .int .i64 x.n, .string ⟨x.s.toArray⟩, .slice (some a) x.l.length cap] 26)).alloc (.cells #[.int .i64 0, .string ⟨#[]⟩, .string ⟨#[]⟩, .int .i64 0, .int .i64 0] 23)).alloc (.cells #[.int .i64 0, .string ⟨#[]⟩, .string ⟨#[]⟩, .int .i64 0, .int .i64 0] 23)).alloc (.cells #[.int .i64 y.k, .int .i64 y.n, .string ⟨y.s.toArray⟩, .slice p2 y.l.length cap2] 26)) (w.heap.size + 1 + 1 + 1) 26 #[.int .i64 y.k, .int .i64 y.n, .string ⟨y.s.toArray⟩, .slice p2 y.l.length cap2] := bY_
  have hb : Below w.heap.size w ((((w.alloc (.cells #[.int .i64 x.k, .int .i64 x.n, .string ⟨x.s.toArray⟩, .slice (some a) x.l.length cap] 26)).alloc (.cells #[.int .i64 0, .string ⟨#[]⟩, .string ⟨#[]⟩, .int .i64 0, .int .i64 0] 23)).alloc (.cells #[.int .i64 0, .string ⟨#[]⟩, .string ⟨#[]⟩, .int .i64 0, .int .i64 0] 23)).alloc (.cells #[.int .i64 y.k, .int .i64 y.n, .string ⟨y.s.toArray⟩, .slice p2 y.l.length cap2] 26)) := (((((Below.refl _ w).alloc (Nat.le_refl _) _).alloc (by simp; try omega) _).alloc (by simp; try omega) _).alloc (by simp; try omega) _)
  have hx0 := hx.below hb
  clear bR_
  clear bE_
  clear bY_
  have h3 : Below w.heap.size w (((w.alloc (.cells #[.int .i64 x.k, .int .i64 x.n, .string ⟨x.s.toArray⟩, .slice (some a) x.l.length cap] 26)).alloc (.cells #[.int .i64 0, .string ⟨#[]⟩, .string ⟨#[]⟩, .int .i64 0, .int .i64 0] 23)).alloc (.cells #[.int .i64 0, .string ⟨#[]⟩, .string ⟨#[]⟩, .int .i64 0, .int .i64 0] 23)) := (((Below.refl _ w).alloc (Nat.le_refl _) _).alloc (by simp; try omega) _).alloc (by simp; try omega) _
  have d0 := (h3.cell (World.block_lt_of_cell? _ _ e0)).trans e0
  have d1 := (h3.cell (World.block_lt_of_cell? _ _ e1)).trans e1
  have d2 := (h3.cell (World.block_lt_of_cell? _ _ e2)).trans e2
  have d3 := (h3.cell (World.block_lt_of_cell? _ _ e3)).trans e3
  clear h3 e0 e1 e2 e3
  obtain ⟨cX0, cX1, cX2, cX3⟩ := bX.four
  have lX := bX.lt
  obtain ⟨cE0, cE1, cE2, cE3, cE4⟩ := bE.five
  have lE := bE.lt
  obtain ⟨cY0, cY1, cY2, cY3⟩ := bY.four
  have lY := bY.lt
  have g5 : (y.k == 3) = true := by simp [hk]
  have g6 : (y.k == 4) = false := by simp [hk]
  clear hk
  go_enter Tryz.func14, Tryz.ntmps14
  go_wp2_with fail
  generalize ((((w.alloc (.cells #[.int .i64 x.k, .int .i64 x.n, .string ⟨x.s.toArray⟩, .slice (some a) x.l.length cap] 26)).alloc (.cells #[.int .i64 0, .string ⟨#[]⟩, .string ⟨#[]⟩, .int .i64 0, .int .i64 0] 23)).alloc (.cells #[.int .i64 0, .string ⟨#[]⟩, .string ⟨#[]⟩, .int .i64 0, .int .i64 0] 23)).alloc (.cells #[.int .i64 y.k, .int .i64 y.n, .string ⟨y.s.toArray⟩, .slice p2 y.l.length cap2] 26)) = w0 at *
  clear d0 d1 d2 d3
  clear cX0 cX1 cX2 cX3 lX
  clear cE0 cE1 cE2 cE3 cE4 lE
  clear cY0 cY1 cY2 cY3 lY
  refine (rjoin_any ⟨#[100, 116, 110]⟩ ⟨y.s.toArray⟩ hys w0).mono ?_
  rintro e w1 ⟨rfl, hc1⟩
  have hb1 := hb.trans (hc1.mono hb.size)
  replace bX := bX.here hc1
  replace bR := bR.here hc1
  replace bE := bE.here hc1
  replace bY := bY.here hc1
  have hx1 := hx0.below hc1
  clear hx0
  clear hc1 hb
  rw [show (⟨#[100, 116, 110]⟩ : ByteArray).data.toList = [100, 116, 110] from rfl, show (⟨y.s.toArray⟩ : ByteArray).data.toList = y.s from List.toList_toArray]
  unfold nmX
  rw [HO.out]
  unfold nmW nmV
  obtain ⟨cE0, cE1, cE2, cE3, cE4⟩ := bE.five
  have fE0 := bE.frozen 0
  have fE1 := bE.frozen 1
  have fE2 := bE.frozen 2
  have fE3 := bE.frozen 3
  have fE4 := bE.frozen 4
  have lE := bE.lt
  obtain ⟨cY0, cY1, cY2, cY3⟩ := bY.four
  have lY := bY.lt
  go_wp2_with fail
  clear cE0 cE1 cE2 cE3 cE4 fE0 fE1 fE2 fE3 fE4 lE
  clear cY0 cY1 cY2 cY3 lY
  have hb2 : Below w.heap.size w (((((w1.setCell ⟨w.heap.size + 1 + 1, 0, none⟩ (.int .i64 o.k)).setCell ⟨w.heap.size + 1 + 1, 1, none⟩ (.string ⟨o.node.toArray⟩)).setCell ⟨w.heap.size + 1 + 1, 2, none⟩ (.string ⟨o.serv.toArray⟩)).setCell ⟨w.heap.size + 1 + 1, 3, none⟩ (.int .i64 o.a)).setCell ⟨w.heap.size + 1 + 1, 4, none⟩ (.int .i64 o.b)) := (below_sets5 (B := w.heap.size + 1 + 1) hb1 (by omega) _ _ _ _ _)
  have bX_ : Blk (((((w1.setCell ⟨w.heap.size + 1 + 1, 0, none⟩ (.int .i64 o.k)).setCell ⟨w.heap.size + 1 + 1, 1, none⟩ (.string ⟨o.node.toArray⟩)).setCell ⟨w.heap.size + 1 + 1, 2, none⟩ (.string ⟨o.serv.toArray⟩)).setCell ⟨w.heap.size + 1 + 1, 3, none⟩ (.int .i64 o.a)).setCell ⟨w.heap.size + 1 + 1, 4, none⟩ (.int .i64 o.b)) (w.heap.size) 26 #[.int .i64 x.k, .int .i64 x.n, .string ⟨x.s.toArray⟩, .slice (some a) x.l.length cap] := (Blk.sets5 (by omega) bX _ _ _ _ _)
  have bR_ : Blk (((((w1.setCell ⟨w.heap.size + 1 + 1, 0, none⟩ (.int .i64 o.k)).setCell ⟨w.heap.size + 1 + 1, 1, none⟩ (.string ⟨o.node.toArray⟩)).setCell ⟨w.heap.size + 1 + 1, 2, none⟩ (.string ⟨o.serv.toArray⟩)).setCell ⟨w.heap.size + 1 + 1, 3, none⟩ (.int .i64 o.a)).setCell ⟨w.heap.size + 1 + 1, 4, none⟩ (.int .i64 o.b)) (w.heap.size + 1) 23 #[.int .i64 0, .string ⟨#[]⟩, .string ⟨#[]⟩, .int .i64 0, .int .i64 0] := (Blk.sets5 (by omega) bR _ _ _ _ _)
  have bE_ : Blk (((((w1.setCell ⟨w.heap.size + 1 + 1, 0, none⟩ (.int .i64 o.k)).setCell ⟨w.heap.size + 1 + 1, 1, none⟩ (.string ⟨o.node.toArray⟩)).setCell ⟨w.heap.size + 1 + 1, 2, none⟩ (.string ⟨o.serv.toArray⟩)).setCell ⟨w.heap.size + 1 + 1, 3, none⟩ (.int .i64 o.a)).setCell ⟨w.heap.size + 1 + 1, 4, none⟩ (.int .i64 o.b)) (w.heap.size + 1 + 1) 23 #[.int .i64 o.k, .string ⟨o.node.toArray⟩, .string ⟨o.serv.toArray⟩, .int .i64 o.a, .int .i64 o.b] := (bE.set5 _ _ _ _ _)
  have bY_ : Blk (((((w1.setCell ⟨w.heap.size + 1 + 1, 0, none⟩ (.int .i64 o.k)).setCell ⟨w.heap.size + 1 + 1, 1, none⟩ (.string ⟨o.node.toArray⟩)).setCell ⟨w.heap.size + 1 + 1, 2, none⟩ (.string ⟨o.serv.toArray⟩)).setCell ⟨w.heap.size + 1 + 1, 3, none⟩ (.int .i64 o.a)).setCell ⟨w.heap.size + 1 + 1, 4, none⟩ (.int .i64 o.b)) (w.heap.size + 1 + 1 + 1) 26 #[.int .i64 y.k, .int .i64 y.n, .string ⟨y.s.toArray⟩, .slice p2 y.l.length cap2] := (Blk.sets5 (by omega) bY _ _ _ _ _)
  clear bX bR bE bY
  have bX := bX_
  clear bX_
  have bR := bR_
  clear bR_
  have bE := bE_
  clear bE_
  have bY := bY_
  clear bY_
  have hx2 := hx.below hb2
  clear hx1
  clear hb1
  generalize (((((w1.setCell ⟨w.heap.size + 1 + 1, 0, none⟩ (.int .i64 o.k)).setCell ⟨w.heap.size + 1 + 1, 1, none⟩ (.string ⟨o.node.toArray⟩)).setCell ⟨w.heap.size + 1 + 1, 2, none⟩ (.string ⟨o.serv.toArray⟩)).setCell ⟨w.heap.size + 1 + 1, 3, none⟩ (.int .i64 o.a)).setCell ⟨w.heap.size + 1 + 1, 4, none⟩ (.int .i64 o.b)) = w2 at *
  obtain ⟨cE0, cE1, cE2, cE3, cE4⟩ := bE.five
  have lE := bE.lt
  refine (rjItem_any o.k ⟨o.node.toArray⟩ ⟨o.serv.toArray⟩ o.a o.b _ _ ((congrArg layI HSELF.out).trans HLY.out) w2 hn hv ra rb).mono ?_
  rintro e w3 ⟨⟨k1, m1, s1, p1, l1, c1, rfl, hI⟩, hc3⟩
  have hb3 := hb2.trans (hc3.mono hb2.size)
  replace bX := bX.here hc3
  replace bR := bR.here hc3
  replace bE := bE.here hc3
  replace bY := bY.here hc3
  have hx3 := hx2.below hc3
  clear hx2
  clear hc3 hb2
  clear cE0 cE1 cE2 cE3 cE4 lE
  have hc4 : Below w3.heap.size w3 (w3.alloc (.cells #[.int .i64 k1, .int .i64 m1, .string s1, .slice p1 l1 c1] 26)) := (Below.refl _ _).alloc (Nat.le_refl _) _
  have bO : Blk (w3.alloc (.cells #[.int .i64 k1, .int .i64 m1, .string s1, .slice p1 l1 c1] 26)) w3.heap.size 26 #[.int .i64 k1, .int .i64 m1, .string s1, .slice p1 l1 c1] := Blk.new _ _ _
  have hb4 := hb3.trans (hc4.mono hb3.size)
  replace bX := bX.here hc4
  replace bR := bR.here hc4
  replace bE := bE.here hc4
  replace bY := bY.here hc4
  have hx4 := hx3.below hc4
  clear hx3
  have hI4 := hI.below hc4
  clear hc4 hb3
  obtain ⟨cO0, cO1, cO2, cO3⟩ := bO.four
  have lO := bO.lt
  obtain ⟨cX0, cX1, cX2, cX3⟩ := bX.four
  have lX := bX.lt
  go_wp2_with fail
  generalize (w3.alloc (.cells #[.int .i64 k1, .int .i64 m1, .string s1, .slice p1 l1 c1] 26)) = w4 at *
  refine (rsame_any _ ok 3 (itmN o) x _ _ w4 (itm_dep _) hI4 hx4).mono ?_
  rintro e w5 ⟨rfl, hc5⟩
  have hb5 := hb4.trans (hc5.mono hb4.size)
  replace bX := bX.here hc5
  replace bR := bR.here hc5
  replace bE := bE.here hc5
  replace bY := bY.here hc5
  replace bO := bO.here hc5
  have hx5 := hx4.below hc5
  clear hx4
  have hI5 := hI4.below hc5
  clear hI4
  clear hc5 hb4
  rw [HS2.out]
  clear cO0 cO1 cO2 cO3 lO
  clear cX0 cX1 cX2 cX3 lX
  obtain ⟨cR0, cR1, cR2, cR3, cR4⟩ := bR.five
  have fR0 := bR.frozen 0
  have fR1 := bR.frozen 1
  have fR2 := bR.frozen 2
  have fR3 := bR.frozen 3
  have fR4 := bR.frozen 4
  have lR := bR.lt
  go_wp2_with fail
  refine bodyPost_ret (res_name2 (bR.set5 _ _ _ _ _) rfl rfl rfl) rfl ⟨rfl, below_sets5 hb5 (by omega) _ _ _ _ _⟩

set_option maxRecDepth 100000 in
set_option maxHeartbeats 2000000 in
theorem rjName_T_same (ok : Nat → Prop) (x y : Itm) (v : Value) (o : Nm) (hlen : x.l.length = 2) (hy : x.l[1]? = some y) (hk : y.k = 3) (ho : (jnR [100, 116, 110] y.s).getD nm0 = o) (hsy : y.s.length ≤ 4000000000) (hn0 : o.node.length ≤ 4000000000) (hv0 : o.serv.length ≤ 4000000000) (hr : nmR o = true) (hb2 : sameB (itmN o) x = true) (w : World) (hx : ItV ok w x v) (ra : I64 o.a) (rb : I64 o.b) :
    Calls Tryz.prog 14 #[v] w fun e w' => e = .returned (.tuple #[.agg #[.int .i64 o.k, .string ⟨o.node.toArray⟩, .string ⟨o.serv.toArray⟩, .int .i64 o.a, .int .i64 o.b], .int .i64 0]) ∧ Below w.heap.size w w' := by
  obtain ⟨p, cap, rfl, hcap, hits, -, -, -⟩ := id hx.parts
  have hy' : x.l[1]? = some y := hy
  obtain ⟨a, c0, c1, c2, c3, rfl, hok, e0, e1, e2, e3, hvy⟩ := ItsV.reads x.l 1 y hits hy'
  obtain ⟨p2, cap2, he, -⟩ := hvy.parts
  simp only [Value.agg.injEq, Array.mk.injEq, List.cons.injEq, and_true] at he
  obtain ⟨rfl, rfl, rfl, rfl⟩ := he
  have g1 : ((x.l.length : Int) == 2) = true := by simp; omega
  have g2 : (x.l.length == 2) = true := by simpa using hlen
  have g3 : (1 : Int) < (x.l.length : Int) := by omega
  have g4 : 1 < x.l.length := by omega
  rw [show a.add (1 * 4) = ⟨a.block, a.off + 4, none⟩ from add_pos _ _ (by decide)] at e0 e1 e2 e3
  simp only at e1 e2 e3
  have HVY := Lib.hid hvy
  have HLEN := Lib.hid hlen
  clear hy hy' hits hvy hcap hlen
  have HO := Lib.hid ho
  clear ho
  have HLY := Lib.hid (show layI o = (itmN o, 0) by unfold layI; rw [hr]; rfl)
  clear hr
  have HS2 := Lib.hid hb2
  clear hb2
  have HSELF := Lib.hid (nmO_self o)
  have hn : (⟨o.node.toArray⟩ : ByteArray).size ≤ 4000000000 := by show o.node.toArray.size ≤ _; rw [List.size_toArray]; exact hn0
  have hv : (⟨o.serv.toArray⟩ : ByteArray).size ≤ 4000000000 := by show o.serv.toArray.size ≤ _; rw [List.size_toArray]; exact hv0
  have hys : (⟨y.s.toArray⟩ : ByteArray).size ≤ 4000000000 := by show y.s.toArray.size ≤ _; rw [List.size_toArray]; exact hsy
  have bR_ := Blk.new (w.alloc (.cells #[.int .i64 x.k, .int .i64 x.n, .string ⟨x.s.toArray⟩, .slice (some a) x.l.length cap] 26)) 23 #[.int .i64 0, .string ⟨#[]⟩, .string ⟨#[]⟩, .int .i64 0, .int .i64 0]
  simp only [World.size_alloc] at bR_
  have bE_ := Blk.new ((w.alloc (.cells #[.int .i64 x.k, .int .i64 x.n, .string ⟨x.s.toArray⟩, .slice (some a) x.l.length cap] 26)).alloc (.cells #[.int .i64 0, .string ⟨#[]⟩, .string ⟨#[]⟩, .int .i64 0, .int .i64 0] 23)) 23 #[.int .i64 0, .string ⟨#[]⟩, .string ⟨#[]⟩, .int .i64 0, .int .i64 0]
  simp only [World.size_alloc] at bE_
  have bY_ := Blk.new (((w.alloc (.cells #[.int .i64 x.k, .int .i64 x.n, .string ⟨x.s.toArray⟩, .slice (some a) x.l.length cap] 26)).alloc (.cells #[.int .i64 0, .string ⟨#[]⟩, .string ⟨#[]⟩, .int .i64 0, .int .i64 0] 23)).alloc (.cells #[.int .i64 0, .string ⟨#[]⟩, .string ⟨#[]⟩, .int .i64 0, .int .i64 0] 23)) 26 #[.int .i64 y.k, .int .i64 y.n, .string ⟨y.s.toArray⟩, .slice p2 y.l.length cap2]
  simp only [World.size_alloc] at bY_
  have bX : Blk ((((w.alloc (.cells #[.int .i64 x.k, .int .i64 x.n, .string ⟨x.s.toArray⟩, .slice (some a) x.l.length cap] 26)).alloc (.cells #[.int .i64 0, .string ⟨#[]⟩, .string ⟨#[]⟩, .int .i64 0, .int .i64 0] 23)).alloc (.cells #[.int .i64 0, .string ⟨#[]⟩, .string ⟨#[]⟩, .int .i64 0, .int .i64 0] 23)).alloc (.cells #[.int .i64 y.k, .int .i64 y.n, .string ⟨y.s.toArray⟩, .slice p2 y.l.length cap2] 26)) (w.heap.size) 26 #[.int .i64 x.k, .int .i64 x.n, .string ⟨x.s.toArray⟩, .slice (some a) x.l.length cap] := (((Blk.new w _ _).alloc _).alloc _).alloc _
  have bR : Blk ((((w.alloc (.cells #[.int .i64 x.k, .int .i64 x.n, .string ⟨x.s.toArray⟩, .slice (some a) x.l.length cap] 26)).alloc (.cells #[.int .i64 0, .string ⟨#[]⟩, .string ⟨#[]⟩, .int .i64 0, .int .i64 0] 23)).alloc (.cells #[.int .i64 0, .string ⟨#[]⟩, .string ⟨#[]⟩, .int .i64 0, .int .i64 0] 23)).alloc (.cells #[.int .i64 y.k, .int .i64 y.n, .string ⟨y.s.toArray⟩, .slice p2 y.l.length cap2] 26)) (w.heap.size + 1) 23 #[.int .i64 0, .string ⟨#[]⟩, .string ⟨#[]⟩, .int .i64 0, .int .i64 0] := ((bR_).alloc _).alloc _
  have bE : Blk ((((w.alloc (.cells #[.int .i64 x.k, .int .i64 x.n, .string ⟨x.s.toArray⟩, .slice (some a) x.l.length cap] 26)).alloc (.cells #[.int .i64 0, .string ⟨#[]⟩, .string ⟨#[]⟩, .int .i64 0, .int .i64 0] 23)).alloc (.cells #[.int .i64 0, .string ⟨#[]⟩, .string ⟨#[]⟩, .int .i64 0, .int .i64 0] 23)).alloc (.cells #[.int .i64 y.k, .int .i64 y.n, .string ⟨y.s.toArray⟩, .slice p2 y.l.length cap2] 26)) (w.heap.size + 1 + 1) 23 #[.int .i64 0, .string ⟨#[]⟩, .string ⟨#[]⟩, .int .i64 0, .int .i64 0] := (bE_).alloc _
  have bY : Blk ((((w.alloc (.cells #[.int .i64 x.k, .int .i64 x.n, .string ⟨x.s.toArray⟩, .slice (some a) x.l.length cap] 26)).alloc (.cells #[.int .i64 0, .string ⟨#[]⟩, .string ⟨#[]⟩, .int .i64 0, .int .i64 0] 23)).alloc (.cells #[.int .i64 0, .string ⟨#[]⟩, .string ⟨#[]⟩, .int .i64 0, .int .i64 0] 23)).alloc (.cells #[.int .i64 y.k, .int .i64 y.n, .string ⟨y.s.toArray⟩, .slice p2 y.l.length cap2] 26)) (w.heap.size + 1 + 1 + 1) 26 #[.int .i64 y.k, .int .i64 y.n, .string ⟨y.s.toArray⟩, .slice p2 y.l.length cap2] := bY_
  have hb : Below w.heap.size w ((((w.alloc (.cells #[.int .i64 x.k, .int .i64 x.n, .string ⟨x.s.toArray⟩, .slice (some a) x.l.length cap] 26)).alloc (.cells #[.int .i64 0, .string ⟨#[]⟩, .string ⟨#[]⟩, .int .i64 0, .int .i64 0] 23)).alloc (.cells #[.int .i64 0, .string ⟨#[]⟩, .string ⟨#[]⟩, .int .i64 0, .int .i64 0] 23)).alloc (.cells #[.int .i64 y.k, .int .i64 y.n, .string ⟨y.s.toArray⟩, .slice p2 y.l.length cap2] 26)) := (((((Below.refl _ w).alloc (Nat.le_refl _) _).alloc (by simp; try omega) _).alloc (by simp; try omega) _).alloc (by simp; try omega) _)
  have hx0 := hx.below hb
  clear bR_
  clear bE_
  clear bY_
  have h3 : Below w.heap.size w (((w.alloc (.cells #[.int .i64 x.k, .int .i64 x.n, .string ⟨x.s.toArray⟩, .slice (some a) x.l.length cap] 26)).alloc (.cells #[.int .i64 0, .string ⟨#[]⟩, .string ⟨#[]⟩, .int .i64 0, .int .i64 0] 23)).alloc (.cells #[.int .i64 0, .string ⟨#[]⟩, .string ⟨#[]⟩, .int .i64 0, .int .i64 0] 23)) := (((Below.refl _ w).alloc (Nat.le_refl _) _).alloc (by simp; try omega) _).alloc (by simp; try omega) _
  have d0 := (h3.cell (World.block_lt_of_cell? _ _ e0)).trans e0
  have d1 := (h3.cell (World.block_lt_of_cell? _ _ e1)).trans e1
  have d2 := (h3.cell (World.block_lt_of_cell? _ _ e2)).trans e2
  have d3 := (h3.cell (World.block_lt_of_cell? _ _ e3)).trans e3
  clear h3 e0 e1 e2 e3
  obtain ⟨cX0, cX1, cX2, cX3⟩ := bX.four
  have lX := bX.lt
  obtain ⟨cE0, cE1, cE2, cE3, cE4⟩ := bE.five
  have lE := bE.lt
  obtain ⟨cY0, cY1, cY2, cY3⟩ := bY.four
  have lY := bY.lt
  have g5 : (y.k == 3) = true := by simp [hk]
  have g6 : (y.k == 4) = false := by simp [hk]
  clear hk
  go_enter Tryz.func14, Tryz.ntmps14
  go_wp2_with fail
  generalize ((((w.alloc (.cells #[.int .i64 x.k, .int .i64 x.n, .string ⟨x.s.toArray⟩, .slice (some a) x.l.length cap] 26)).alloc (.cells #[.int .i64 0, .string ⟨#[]⟩, .string ⟨#[]⟩, .int .i64 0, .int .i64 0] 23)).alloc (.cells #[.int .i64 0, .string ⟨#[]⟩, .string ⟨#[]⟩, .int .i64 0, .int .i64 0] 23)).alloc (.cells #[.int .i64 y.k, .int .i64 y.n, .string ⟨y.s.toArray⟩, .slice p2 y.l.length cap2] 26)) = w0 at *
  clear d0 d1 d2 d3
  clear cX0 cX1 cX2 cX3 lX
  clear cE0 cE1 cE2 cE3 cE4 lE
  clear cY0 cY1 cY2 cY3 lY
  refine (rjoin_any ⟨#[100, 116, 110]⟩ ⟨y.s.toArray⟩ hys w0).mono ?_
  rintro e w1 ⟨rfl, hc1⟩
  have hb1 := hb.trans (hc1.mono hb.size)
  replace bX := bX.here hc1
  replace bR := bR.here hc1
  replace bE := bE.here hc1
  replace bY := bY.here hc1
  have hx1 := hx0.below hc1
  clear hx0
  clear hc1 hb
  rw [show (⟨#[100, 116, 110]⟩ : ByteArray).data.toList = [100, 116, 110] from rfl, show (⟨y.s.toArray⟩ : ByteArray).data.toList = y.s from List.toList_toArray]
  unfold nmX
  rw [HO.out]
  unfold nmW nmV
  obtain ⟨cE0, cE1, cE2, cE3, cE4⟩ := bE.five
  have fE0 := bE.frozen 0
  have fE1 := bE.frozen 1
  have fE2 := bE.frozen 2
  have fE3 := bE.frozen 3
  have fE4 := bE.frozen 4
  have lE := bE.lt
  obtain ⟨cY0, cY1, cY2, cY3⟩ := bY.four
  have lY := bY.lt
  go_wp2_with fail
  clear cE0 cE1 cE2 cE3 cE4 fE0 fE1 fE2 fE3 fE4 lE
  clear cY0 cY1 cY2 cY3 lY
  have hb2 : Below w.heap.size w (((((w1.setCell ⟨w.heap.size + 1 + 1, 0, none⟩ (.int .i64 o.k)).setCell ⟨w.heap.size + 1 + 1, 1, none⟩ (.string ⟨o.node.toArray⟩)).setCell ⟨w.heap.size + 1 + 1, 2, none⟩ (.string ⟨o.serv.toArray⟩)).setCell ⟨w.heap.size + 1 + 1, 3, none⟩ (.int .i64 o.a)).setCell ⟨w.heap.size + 1 + 1, 4, none⟩ (.int .i64 o.b)) := (below_sets5 (B := w.heap.size + 1 + 1) hb1 (by omega) _ _ _ _ _)
  have bX_ : Blk (((((w1.setCell ⟨w.heap.size + 1 + 1, 0, none⟩ (.int .i64 o.k)).setCell ⟨w.heap.size + 1 + 1, 1, none⟩ (.string ⟨o.node.toArray⟩)).setCell ⟨w.heap.size + 1 + 1, 2, none⟩ (.string ⟨o.serv.toArray⟩)).setCell ⟨w.heap.size + 1 + 1, 3, none⟩ (.int .i64 o.a)).setCell ⟨w.heap.size + 1 + 1, 4, none⟩ (.int .i64 o.b)) (w.heap.size) 26 #[.int .i64 x.k, .int .i64 x.n, .string ⟨x.s.toArray⟩, .slice (some a) x.l.length cap] := (Blk.sets5 (by omega) bX _ _ _ _ _)
  have bR_ : Blk (((((w1.setCell ⟨w.heap.size + 1 + 1, 0, none⟩ (.int .i64 o.k)).setCell ⟨w.heap.size + 1 + 1, 1, none⟩ (.string ⟨o.node.toArray⟩)).setCell ⟨w.heap.size + 1 + 1, 2, none⟩ (.string ⟨o.serv.toArray⟩)).setCell ⟨w.heap.size + 1 + 1, 3, none⟩ (.int .i64 o.a)).setCell ⟨w.heap.size + 1 + 1, 4, none⟩ (.int .i64 o.b)) (w.heap.size + 1) 23 #[.int .i64 0, .string ⟨#[]⟩, .string ⟨#[]⟩, .int .i64 0, .int .i64 0] := (Blk.sets5 (by omega) bR _ _ _ _ _)
  have bE_ : Blk (((((w1.setCell ⟨w.heap.size + 1 + 1, 0, none⟩ (.int .i64 o.k)).setCell ⟨w.heap.size + 1 + 1, 1, none⟩ (.string ⟨o.node.toArray⟩)).setCell ⟨w.heap.size + 1 + 1, 2, none⟩ (.string ⟨o.serv.toArray⟩)).setCell ⟨w.heap.size + 1 + 1, 3, none⟩ (.int .i64 o.a)).setCell ⟨w.heap.size + 1 + 1, 4, none⟩ (.int .i64 o.b)) (w.heap.size + 1 + 1) 23 #[.int .i64 o.k, .string ⟨o.node.toArray⟩, .string ⟨o.serv.toArray⟩, .int .i64 o.a, .int .i64 o.b] := (bE.set5 _ _ _ _ _)
  have bY_ : Blk (((((w1.setCell ⟨w.heap.size + 1 + 1, 0, none⟩ (.int .i64 o.k)).setCell ⟨w.heap.size + 1 + 1, 1, none⟩ (.string ⟨o.node.toArray⟩)).setCell ⟨w.heap.size + 1 + 1, 2, none⟩ (.string ⟨o.serv.toArray⟩)).setCell ⟨w.heap.size + 1 + 1, 3, none⟩ (.int .i64 o.a)).setCell ⟨w.heap.size + 1 + 1, 4, none⟩ (.int .i64 o.b)) (w.heap.size + 1 + 1 + 1) 26 #[.int .i64 y.k, .int .i64 y.n, .string ⟨y.s.toArray⟩, .slice p2 y.l.length cap2] := (Blk.sets5 (by omega) bY _ _ _ _ _)
  clear bX bR bE bY
  have bX := bX_
  clear bX_
  have bR := bR_
  clear bR_
  have bE := bE_
  clear bE_
  have bY := bY_
  clear bY_
  have hx2 := hx.below hb2
  clear hx1
  clear hb1
  generalize (((((w1.setCell ⟨w.heap.size + 1 + 1, 0, none⟩ (.int .i64 o.k)).setCell ⟨w.heap.size + 1 + 1, 1, none⟩ (.string ⟨o.node.toArray⟩)).setCell ⟨w.heap.size + 1 + 1, 2, none⟩ (.string ⟨o.serv.toArray⟩)).setCell ⟨w.heap.size + 1 + 1, 3, none⟩ (.int .i64 o.a)).setCell ⟨w.heap.size + 1 + 1, 4, none⟩ (.int .i64 o.b)) = w2 at *
  obtain ⟨cE0, cE1, cE2, cE3, cE4⟩ := bE.five
  have lE := bE.lt
  refine (rjItem_any o.k ⟨o.node.toArray⟩ ⟨o.serv.toArray⟩ o.a o.b _ _ ((congrArg layI HSELF.out).trans HLY.out) w2 hn hv ra rb).mono ?_
  rintro e w3 ⟨⟨k1, m1, s1, p1, l1, c1, rfl, hI⟩, hc3⟩
  have hb3 := hb2.trans (hc3.mono hb2.size)
  replace bX := bX.here hc3
  replace bR := bR.here hc3
  replace bE := bE.here hc3
  replace bY := bY.here hc3
  have hx3 := hx2.below hc3
  clear hx2
  clear hc3 hb2
  clear cE0 cE1 cE2 cE3 cE4 lE
  have hc4 : Below w3.heap.size w3 (w3.alloc (.cells #[.int .i64 k1, .int .i64 m1, .string s1, .slice p1 l1 c1] 26)) := (Below.refl _ _).alloc (Nat.le_refl _) _
  have bO : Blk (w3.alloc (.cells #[.int .i64 k1, .int .i64 m1, .string s1, .slice p1 l1 c1] 26)) w3.heap.size 26 #[.int .i64 k1, .int .i64 m1, .string s1, .slice p1 l1 c1] := Blk.new _ _ _
  have hb4 := hb3.trans (hc4.mono hb3.size)
  replace bX := bX.here hc4
  replace bR := bR.here hc4
  replace bE := bE.here hc4
  replace bY := bY.here hc4
  have hx4 := hx3.below hc4
  clear hx3
  have hI4 := hI.below hc4
  clear hc4 hb3
  obtain ⟨cO0, cO1, cO2, cO3⟩ := bO.four
  have lO := bO.lt
  obtain ⟨cX0, cX1, cX2, cX3⟩ := bX.four
  have lX := bX.lt
  go_wp2_with fail
  generalize (w3.alloc (.cells #[.int .i64 k1, .int .i64 m1, .string s1, .slice p1 l1 c1] 26)) = w4 at *
  refine (rsame_any _ ok 3 (itmN o) x _ _ w4 (itm_dep _) hI4 hx4).mono ?_
  rintro e w5 ⟨rfl, hc5⟩
  have hb5 := hb4.trans (hc5.mono hb4.size)
  replace bX := bX.here hc5
  replace bR := bR.here hc5
  replace bE := bE.here hc5
  replace bY := bY.here hc5
  replace bO := bO.here hc5
  have hx5 := hx4.below hc5
  clear hx4
  have hI5 := hI4.below hc5
  clear hI4
  clear hc5 hb4
  rw [HS2.out]
  clear cO0 cO1 cO2 cO3 lO
  clear cX0 cX1 cX2 cX3 lX
  obtain ⟨cR0, cR1, cR2, cR3, cR4⟩ := bR.five
  have fR0 := bR.frozen 0
  have fR1 := bR.frozen 1
  have fR2 := bR.frozen 2
  have fR3 := bR.frozen 3
  have fR4 := bR.frozen 4
  have lR := bR.lt
  obtain ⟨cE0, cE1, cE2, cE3, cE4⟩ := bE.five
  have lE := bE.lt
  go_wp2_with fail
  refine bodyPost_ret (res_name2 (bR.set5 _ _ _ _ _) rfl rfl rfl) rfl ⟨rfl, below_sets5 hb5 (by omega) _ _ _ _ _⟩

set_option maxRecDepth 100000 in
set_option maxHeartbeats 2000000 in
theorem rjName_N_diff (ok : Nat → Prop) (x y : Itm) (v : Value) (hlen : x.l.length = 2) (hy : x.l[1]? = some y) (hk : y.k ≠ 3) (hk4 : ¬(y.k = 4 ∧ y.l.length = 2)) (hr : nmR nm0 = true) (hb2 : sameB (itmN nm0) x = false) (w : World) (hx : ItV ok w x v) :
    Calls Tryz.prog 14 #[v] w fun e w' => e = .returned (.tuple #[.agg #[.int .i64 0, .string ⟨#[]⟩, .string ⟨#[]⟩, .int .i64 0, .int .i64 0], .int .i64 60]) ∧ Below w.heap.size w w' := by
  obtain ⟨p, cap, rfl, hcap, hits, -, -, -⟩ := id hx.parts
  have hy' : x.l[1]? = some y := hy
  obtain ⟨a, c0, c1, c2, c3, rfl, hok, e0, e1, e2, e3, hvy⟩ := ItsV.reads x.l 1 y hits hy'
  obtain ⟨p2, cap2, he, -⟩ := hvy.parts
  simp only [Value.agg.injEq, Array.mk.injEq, List.cons.injEq, and_true] at he
  obtain ⟨rfl, rfl, rfl, rfl⟩ := he
  have g1 : ((x.l.length : Int) == 2) = true := by simp; omega
  have g2 : (x.l.length == 2) = true := by simpa using hlen
  have g3 : (1 : Int) < (x.l.length : Int) := by omega
  have g4 : 1 < x.l.length := by omega
  rw [show a.add (1 * 4) = ⟨a.block, a.off + 4, none⟩ from add_pos _ _ (by decide)] at e0 e1 e2 e3
  simp only at e1 e2 e3
  have HVY := Lib.hid hvy
  have HLEN := Lib.hid hlen
  clear hy hy' hits hvy hcap hlen
  have HLY := Lib.hid (show layI nm0 = (itmN nm0, 0) by unfold layI; rw [hr]; rfl)
  clear hr
  have HS2 := Lib.hid hb2
  clear hb2
  have ra : I64 (0 : Int) := by unfold I64; decide
  have rb : I64 (0 : Int) := ra
  have hn : (⟨#[]⟩ : ByteArray).size ≤ 4000000000 := by decide
  have hv : (⟨#[]⟩ : ByteArray).size ≤ 4000000000 := by decide
  have HSELF := Lib.hid (show nmO 0 ⟨#[]⟩ ⟨#[]⟩ 0 0 = nm0 from rfl)
  have g5 : (y.k == 3) = false := by simpa using hk
  by_cases h4 : y.k = 4
  · have g6 : (y.k == 4) = true := by simp [h4]
    have g7 : y.l.length ≠ 2 := fun h => hk4 ⟨h4, h⟩
    have g8 : ((y.l.length : Int) == 2) = false := by simp; omega
    have g9 : (y.l.length == 2) = false := by simpa using g7
    clear g7
    clear hk hk4 h4
    have bR_ := Blk.new (w.alloc (.cells #[.int .i64 x.k, .int .i64 x.n, .string ⟨x.s.toArray⟩, .slice (some a) x.l.length cap] 26)) 23 #[.int .i64 0, .string ⟨#[]⟩, .string ⟨#[]⟩, .int .i64 0, .int .i64 0]
    simp only [World.size_alloc] at bR_
    have bE_ := Blk.new ((w.alloc (.cells #[.int .i64 x.k, .int .i64 x.n, .string ⟨x.s.toArray⟩, .slice (some a) x.l.length cap] 26)).alloc (.cells #[.int .i64 0, .string ⟨#[]⟩, .string ⟨#[]⟩, .int .i64 0, .int .i64 0] 23)) 23 #[.int .i64 0, .string ⟨#[]⟩, .string ⟨#[]⟩, .int .i64 0, .int .i64 0]
    simp only [World.size_alloc] at bE_
    have bY_ := Blk.new (((w.alloc (.cells #[.int .i64 x.k, .int .i64 x.n, .string ⟨x.s.toArray⟩, .slice (some a) x.l.length cap] 26)).alloc (.cells #[.int .i64 0, .string ⟨#[]⟩, .string ⟨#[]⟩, .int .i64 0, .int .i64 0] 23)).alloc (.cells #[.int .i64 0, .string ⟨#[]⟩, .string ⟨#[]⟩, .int .i64 0, .int .i64 0] 23)) 26 #[.int .i64 y.k, .int .i64 y.n, .string ⟨y.s.toArray⟩, .slice p2 y.l.length cap2]
    simp only [World.size_alloc] at bY_
    have bX : Blk ((((w.alloc (.cells #[.int .i64 x.k, .int .i64 x.n, .string ⟨x.s.toArray⟩, .slice (some a) x.l.length cap] 26)).alloc (.cells #[.int .i64 0, .string ⟨#[]⟩, .string ⟨#[]⟩, .int .i64 0, .int .i64 0] 23)).alloc (.cells #[.int .i64 0, .string ⟨#[]⟩, .string ⟨#[]⟩, .int .i64 0, .int .i64 0] 23)).alloc (.cells #[.int .i64 y.k, .int .i64 y.n, .string ⟨y.s.toArray⟩, .slice p2 y.l.length cap2] 26)) (w.heap.size) 26 #[.int .i64 x.k, .int .i64 x.n, .string ⟨x.s.toArray⟩, .slice (some a) x.l.length cap] := (((Blk.new w _ _).alloc _).alloc _).alloc _
    have bR : Blk ((((w.alloc (.cells #[.int .i64 x.k, .int .i64 x.n, .string ⟨x.s.toArray⟩, .slice (some a) x.l.length cap] 26)).alloc (.cells #[.int .i64 0, .string ⟨#[]⟩, .string ⟨#[]⟩, .int .i64 0, .int .i64 0] 23)).alloc (.cells #[.int .i64 0, .string ⟨#[]⟩, .string ⟨#[]⟩, .int .i64 0, .int .i64 0] 23)).alloc (.cells #[.int .i64 y.k, .int .i64 y.n, .string ⟨y.s.toArray⟩, .slice p2 y.l.length cap2] 26)) (w.heap.size + 1) 23 #[.int .i64 0, .string ⟨#[]⟩, .string ⟨#[]⟩, .int .i64 0, .int .i64 0] := ((bR_).alloc _).alloc _
    have bE : Blk ((((w.alloc (.cells #[.int .i64 x.k, .int .i64 x.n, .string ⟨x.s.toArray⟩, .slice (some a) x.l.length cap] 26)).alloc (.cells #[.int .i64 0, .string ⟨#[]⟩, .string ⟨#[]⟩, .int .i64 0, .int .i64 0] 23)).alloc (.cells #[.int .i64 0, .string ⟨#[]⟩, .string ⟨#[]⟩, .int .i64 0, .int .i64 0] 23)).alloc (.cells #[.int .i64 y.k, .int .i64 y.n, .string ⟨y.s.toArray⟩, .slice p2 y.l.length cap2] 26)) (w.heap.size + 1 + 1) 23 #[.int .i64 0, .string ⟨#[]⟩, .string ⟨#[]⟩, .int .i64 0, .int .i64 0] := (bE_).alloc _
    have bY : Blk ((((w.alloc (.cells #[.int .i64 x.k, .int .i64 x.n, .string ⟨x.s.toArray⟩, .slice (some a) x.l.length cap] 26)).alloc (.cells #[.int .i64 0, .string ⟨#[]⟩, .string ⟨#[]⟩, .int .i64 0, .int .i64 0] 23)).alloc (.cells #[.int .i64 0, .string ⟨#[]⟩, .string ⟨#[]⟩, .int .i64 0, .int .i64 0] 23)).alloc (.cells #[.int .i64 y.k, .int .i64 y.n, .string ⟨y.s.toArray⟩, .slice p2 y.l.length cap2] 26)) (w.heap.size + 1 + 1 + 1) 26 #[.int .i64 y.k, .int .i64 y.n, .string ⟨y.s.toArray⟩, .slice p2 y.l.length cap2] := bY_
    have hb : Below w.heap.size w ((((w.alloc (.cells #[.int .i64 x.k, .int .i64 x.n, .string ⟨x.s.toArray⟩, .slice (some a) x.l.length cap] 26)).alloc (.cells #[.int .i64 0, .string ⟨#[]⟩, .string ⟨#[]⟩, .int .i64 0, .int .i64 0] 23)).alloc (.cells #[.int .i64 0, .string ⟨#[]⟩, .string ⟨#[]⟩, .int .i64 0, .int .i64 0] 23)).alloc (.cells #[.int .i64 y.k, .int .i64 y.n, .string ⟨y.s.toArray⟩, .slice p2 y.l.length cap2] 26)) := (((((Below.refl _ w).alloc (Nat.le_refl _) _).alloc (by simp; try omega) _).alloc (by simp; try omega) _).alloc (by simp; try omega) _)
    have hx0 := hx.below hb
    clear bR_
    clear bE_
    clear bY_
    have h3 : Below w.heap.size w (((w.alloc (.cells #[.int .i64 x.k, .int .i64 x.n, .string ⟨x.s.toArray⟩, .slice (some a) x.l.length cap] 26)).alloc (.cells #[.int .i64 0, .string ⟨#[]⟩, .string ⟨#[]⟩, .int .i64 0, .int .i64 0] 23)).alloc (.cells #[.int .i64 0, .string ⟨#[]⟩, .string ⟨#[]⟩, .int .i64 0, .int .i64 0] 23)) := (((Below.refl _ w).alloc (Nat.le_refl _) _).alloc (by simp; try omega) _).alloc (by simp; try omega) _
    have d0 := (h3.cell (World.block_lt_of_cell? _ _ e0)).trans e0
    have d1 := (h3.cell (World.block_lt_of_cell? _ _ e1)).trans e1
    have d2 := (h3.cell (World.block_lt_of_cell? _ _ e2)).trans e2
    have d3 := (h3.cell (World.block_lt_of_cell? _ _ e3)).trans e3
    clear h3 e0 e1 e2 e3
    obtain ⟨cX0, cX1, cX2, cX3⟩ := bX.four
    have lX := bX.lt
    obtain ⟨cE0, cE1, cE2, cE3, cE4⟩ := bE.five
    have lE := bE.lt
    obtain ⟨cY0, cY1, cY2, cY3⟩ := bY.four
    have lY := bY.lt
    go_enter Tryz.func14, Tryz.ntmps14
    go_wp2_with fail
    generalize ((((w.alloc (.cells #[.int .i64 x.k, .int .i64 x.n, .string ⟨x.s.toArray⟩, .slice (some a) x.l.length cap] 26)).alloc (.cells #[.int .i64 0, .string ⟨#[]⟩, .string ⟨#[]⟩, .int .i64 0, .int .i64 0] 23)).alloc (.cells #[.int .i64 0, .string ⟨#[]⟩, .string ⟨#[]⟩, .int .i64 0, .int .i64 0] 23)).alloc (.cells #[.int .i64 y.k, .int .i64 y.n, .string ⟨y.s.toArray⟩, .slice p2 y.l.length cap2] 26)) = w0 at *
    clear d0 d1 d2 d3
    clear cX0 cX1 cX2 cX3 lX
    clear cY0 cY1 cY2 cY3 lY
    refine (rjItem_any 0 ⟨#[]⟩ ⟨#[]⟩ 0 0 _ _ ((congrArg layI HSELF.out).trans HLY.out) w0 hn hv ra rb).mono ?_
    rintro e w1 ⟨⟨k1, m1, s1, p1, l1, c1, rfl, hI⟩, hc1⟩
    have hb1 := hb.trans (hc1.mono hb.size)
    replace bX := bX.here hc1
    replace bR := bR.here hc1
    replace bE := bE.here hc1
    replace bY := bY.here hc1
    have hx1 := hx0.below hc1
    clear hx0
    clear hc1 hb
    clear cE0 cE1 cE2 cE3 cE4 lE
    have hc2 : Below w1.heap.size w1 (w1.alloc (.cells #[.int .i64 k1, .int .i64 m1, .string s1, .slice p1 l1 c1] 26)) := (Below.refl _ _).alloc (Nat.le_refl _) _
    have bO : Blk (w1.alloc (.cells #[.int .i64 k1, .int .i64 m1, .string s1, .slice p1 l1 c1] 26)) w1.heap.size 26 #[.int .i64 k1, .int .i64 m1, .string s1, .slice p1 l1 c1] := Blk.new _ _ _
    have hb2 := hb1.trans (hc2.mono hb1.size)
    replace bX := bX.here hc2
    replace bR := bR.here hc2
    replace bE := bE.here hc2
    replace bY := bY.here hc2
    have hx2 := hx1.below hc2
    clear hx1
    have hI2 := hI.below hc2
    clear hc2 hb1
    obtain ⟨cO0, cO1, cO2, cO3⟩ := bO.four
    have lO := bO.lt
    obtain ⟨cX0, cX1, cX2, cX3⟩ := bX.four
    have lX := bX.lt
    go_wp2_with fail
    generalize (w1.alloc (.cells #[.int .i64 k1, .int .i64 m1, .string s1, .slice p1 l1 c1] 26)) = w2 at *
    refine (rsame_any _ ok 3 (itmN nm0) x _ _ w2 (itm_dep _) hI2 hx2).mono ?_
    rintro e w3 ⟨rfl, hc3⟩
    have hb3 := hb2.trans (hc3.mono hb2.size)
    replace bX := bX.here hc3
    replace bR := bR.here hc3
    replace bE := bE.here hc3
    replace bY := bY.here hc3
    replace bO := bO.here hc3
    have hx3 := hx2.below hc3
    clear hx2
    have hI3 := hI2.below hc3
    clear hI2
    clear hc3 hb2
    rw [HS2.out]
    clear cO0 cO1 cO2 cO3 lO
    clear cX0 cX1 cX2 cX3 lX
    obtain ⟨cR0, cR1, cR2, cR3, cR4⟩ := bR.five
    have fR0 := bR.frozen 0
    have fR1 := bR.frozen 1
    have fR2 := bR.frozen 2
    have fR3 := bR.frozen 3
    have fR4 := bR.frozen 4
    have lR := bR.lt
    go_wp2_with fail
    refine bodyPost_ret (res_name2 (bR.set5 _ _ _ _ _) rfl rfl rfl) rfl ⟨rfl, below_sets5 hb3 (by omega) _ _ _ _ _⟩
  · have g6 : (y.k == 4) = false := by simpa using h4
    clear hk hk4 h4
    have bR_ := Blk.new (w.alloc (.cells #[.int .i64 x.k, .int .i64 x.n, .string ⟨x.s.toArray⟩, .slice (some a) x.l.length cap] 26)) 23 #[.int .i64 0, .string ⟨#[]⟩, .string ⟨#[]⟩, .int .i64 0, .int .i64 0]
    simp only [World.size_alloc] at bR_
    have bE_ := Blk.new ((w.alloc (.cells #[.int .i64 x.k, .int .i64 x.n, .string ⟨x.s.toArray⟩, .slice (some a) x.l.length cap] 26)).alloc (.cells #[.int .i64 0, .string ⟨#[]⟩, .string ⟨#[]⟩, .int .i64 0, .int .i64 0] 23)) 23 #[.int .i64 0, .string ⟨#[]⟩, .string ⟨#[]⟩, .int .i64 0, .int .i64 0]
    simp only [World.size_alloc] at bE_
    have bY_ := Blk.new (((w.alloc (.cells #[.int .i64 x.k, .int .i64 x.n, .string ⟨x.s.toArray⟩, .slice (some a) x.l.length cap] 26)).alloc (.cells #[.int .i64 0, .string ⟨#[]⟩, .string ⟨#[]⟩, .int .i64 0, .int .i64 0] 23)).alloc (.cells #[.int .i64 0, .string ⟨#[]⟩, .string ⟨#[]⟩, .int .i64 0, .int .i64 0] 23)) 26 #[.int .i64 y.k, .int .i64 y.n, .string ⟨y.s.toArray⟩, .slice p2 y.l.length cap2]
    simp only [World.size_alloc] at bY_
    have bX : Blk ((((w.alloc (.cells #[.int .i64 x.k, .int .i64 x.n, .string ⟨x.s.toArray⟩, .slice (some a) x.l.length cap] 26)).alloc (.cells #[.int .i64 0, .string ⟨#[]⟩, .string ⟨#[]⟩, .int .i64 0, .int .i64 0] 23)).alloc (.cells #[.int .i64 0, .string ⟨#[]⟩, .string ⟨#[]⟩, .int .i64 0, .int .i64 0] 23)).alloc (.cells #[.int .i64 y.k, .int .i64 y.n, .string ⟨y.s.toArray⟩, .slice p2 y.l.length cap2] 26)) (w.heap.size) 26 #[.int .i64 x.k, .int .i64 x.n, .string ⟨x.s.toArray⟩, .slice (some a) x.l.length cap] := (((Blk.new w _ _).alloc _).alloc _).alloc _
    have bR : Blk ((((w.alloc (.cells #[.int .i64 x.k, .int .i64 x.n, .string ⟨x.s.toArray⟩, .slice (some a) x.l.length cap] 26)).alloc (.cells #[.int .i64 0, .string ⟨#[]⟩, .string ⟨#[]⟩, .int .i64 0, .int .i64 0] 23)).alloc (.cells #[.int .i64 0, .string ⟨#[]⟩, .string ⟨#[]⟩, .int .i64 0, .int .i64 0] 23)).alloc (.cells #[.int .i64 y.k, .int .i64 y.n, .string ⟨y.s.toArray⟩, .slice p2 y.l.length cap2] 26)) (w.heap.size + 1) 23 #[.int .i64 0, .string ⟨#[]⟩, .string ⟨#[]⟩, .int .i64 0, .int .i64 0] := ((bR_).alloc _).alloc _
    have bE : Blk ((((w.alloc (.cells #[.int .i64 x.k, .int .i64 x.n, .string ⟨x.s.toArray⟩, .slice (some a) x.l.length cap] 26)).alloc (.cells #[.int .i64 0, .string ⟨#[]⟩, .string ⟨#[]⟩, .int .i64 0, .int .i64 0] 23)).alloc (.cells #[.int .i64 0, .string ⟨#[]⟩, .string ⟨#[]⟩, .int .i64 0, .int .i64 0] 23)).alloc (.cells #[.int .i64 y.k, .int .i64 y.n, .string ⟨y.s.toArray⟩, .slice p2 y.l.length cap2] 26)) (w.heap.size + 1 + 1) 23 #[.int .i64 0, .string ⟨#[]⟩, .string ⟨#[]⟩, .int .i64 0, .int .i64 0] := (bE_).alloc _
    have bY : Blk ((((w.alloc (.cells #[.int .i64 x.k, .int .i64 x.n, .string ⟨x.s.toArray⟩, .slice (some a) x.l.length cap] 26)).alloc (.cells #[.int .i64 0, .string ⟨#[]⟩, .string ⟨#[]⟩, .int .i64 0, .int .i64 0] 23)).alloc (.cells #[.int .i64 0, .string ⟨#[]⟩, .string ⟨#[]⟩, .int .i64 0, .int .i64 0] 23)).alloc (.cells #[.int .i64 y.k, .int .i64 y.n, .string ⟨y.s.toArray⟩, .slice p2 y.l.length cap2] 26)) (w.heap.size + 1 + 1 + 1) 26 #[.int .i64 y.k, .int .i64 y.n, .string ⟨y.s.toArray⟩, .slice p2 y.l.length cap2] := bY_
    have hb : Below w.heap.size w ((((w.alloc (.cells #[.int .i64 x.k, .int .i64 x.n, .string ⟨x.s.toArray⟩, .slice (some a) x.l.length cap] 26)).alloc (.cells #[.int .i64 0, .string ⟨#[]⟩, .string ⟨#[]⟩, .int .i64 0, .int .i64 0] 23)).alloc (.cells #[.int .i64 0, .string ⟨#[]⟩, .string ⟨#[]⟩, .int .i64 0, .int .i64 0] 23)).alloc (.cells #[.int .i64 y.k, .int .i64 y.n, .string ⟨y.s.toArray⟩, .slice p2 y.l.length cap2] 26)) := (((((Below.refl _ w).alloc (Nat.le_refl _) _).alloc (by simp; try omega) _).alloc (by simp; try omega) _).alloc (by simp; try omega) _)
    have hx0 := hx.below hb
    clear bR_
    clear bE_
    clear bY_
    have h3 : Below w.heap.size w (((w.alloc (.cells #[.int .i64 x.k, .int .i64 x.n, .string ⟨x.s.toArray⟩, .slice (some a) x.l.length cap] 26)).alloc (.cells #[.int .i64 0, .string ⟨#[]⟩, .string ⟨#[]⟩, .int .i64 0, .int .i64 0] 23)).alloc (.cells #[.int .i64 0, .string ⟨#[]⟩, .string ⟨#[]⟩, .int .i64 0, .int .i64 0] 23)) := (((Below.refl _ w).alloc (Nat.le_refl _) _).alloc (by simp; try omega) _).alloc (by simp; try omega) _
    have d0 := (h3.cell (World.block_lt_of_cell? _ _ e0)).trans e0
    have d1 := (h3.cell (World.block_lt_of_cell? _ _ e1)).trans e1
    have d2 := (h3.cell (World.block_lt_of_cell? _ _ e2)).trans e2
    have d3 := (h3.cell (World.block_lt_of_cell? _ _ e3)).trans e3
    clear h3 e0 e1 e2 e3
    obtain ⟨cX0, cX1, cX2, cX3⟩ := bX.four
    have lX := bX.lt
    obtain ⟨cE0, cE1, cE2, cE3, cE4⟩ := bE.five
    have lE := bE.lt
    obtain ⟨cY0, cY1, cY2, cY3⟩ := bY.four
    have lY := bY.lt
    go_enter Tryz.func14, Tryz.ntmps14
    go_wp2_with fail
    generalize ((((w.alloc (.cells #[.int .i64 x.k, .int .i64 x.n, .string ⟨x.s.toArray⟩, .slice (some a) x.l.length cap] 26)).alloc (.cells #[.int .i64 0, .string ⟨#[]⟩, .string ⟨#[]⟩, .int .i64 0, .int .i64 0] 23)).alloc (.cells #[.int .i64 0, .string ⟨#[]⟩, .string ⟨#[]⟩, .int .i64 0, .int .i64 0] 23)).alloc (.cells #[.int .i64 y.k, .int .i64 y.n, .string ⟨y.s.toArray⟩, .slice p2 y.l.length cap2] 26)) = w0 at *
    clear d0 d1 d2 d3
    clear cX0 cX1 cX2 cX3 lX
    clear cY0 cY1 cY2 cY3 lY
    refine (rjItem_any 0 ⟨#[]⟩ ⟨#[]⟩ 0 0 _ _ ((congrArg layI HSELF.out).trans HLY.out) w0 hn hv ra rb).mono ?_
    rintro e w1 ⟨⟨k1, m1, s1, p1, l1, c1, rfl, hI⟩, hc1⟩
    have hb1 := hb.trans (hc1.mono hb.size)
    replace bX := bX.here hc1
    replace bR := bR.here hc1
    replace bE := bE.here hc1
    replace bY := bY.here hc1
    have hx1 := hx0.below hc1
    clear hx0
    clear hc1 hb
    clear cE0 cE1 cE2 cE3 cE4 lE
    have hc2 : Below w1.heap.size w1 (w1.alloc (.cells #[.int .i64 k1, .int .i64 m1, .string s1, .slice p1 l1 c1] 26)) := (Below.refl _ _).alloc (Nat.le_refl _) _
    have bO : Blk (w1.alloc (.cells #[.int .i64 k1, .int .i64 m1, .string s1, .slice p1 l1 c1] 26)) w1.heap.size 26 #[.int .i64 k1, .int .i64 m1, .string s1, .slice p1 l1 c1] := Blk.new _ _ _
    have hb2 := hb1.trans (hc2.mono hb1.size)
    replace bX := bX.here hc2
    replace bR := bR.here hc2
    replace bE := bE.here hc2
    replace bY := bY.here hc2
    have hx2 := hx1.below hc2
    clear hx1
    have hI2 := hI.below hc2
    clear hc2 hb1
    obtain ⟨cO0, cO1, cO2, cO3⟩ := bO.four
    have lO := bO.lt
    obtain ⟨cX0, cX1, cX2, cX3⟩ := bX.four
    have lX := bX.lt
    go_wp2_with fail
    generalize (w1.alloc (.cells #[.int .i64 k1, .int .i64 m1, .string s1, .slice p1 l1 c1] 26)) = w2 at *
    refine (rsame_any _ ok 3 (itmN nm0) x _ _ w2 (itm_dep _) hI2 hx2).mono ?_
    rintro e w3 ⟨rfl, hc3⟩
    have hb3 := hb2.trans (hc3.mono hb2.size)
    replace bX := bX.here hc3
    replace bR := bR.here hc3
    replace bE := bE.here hc3
    replace bY := bY.here hc3
    replace bO := bO.here hc3
    have hx3 := hx2.below hc3
    clear hx2
    have hI3 := hI2.below hc3
    clear hI2
    clear hc3 hb2
    rw [HS2.out]
    clear cO0 cO1 cO2 cO3 lO
    clear cX0 cX1 cX2 cX3 lX
    obtain ⟨cR0, cR1, cR2, cR3, cR4⟩ := bR.five
    have fR0 := bR.frozen 0
    have fR1 := bR.frozen 1
    have fR2 := bR.frozen 2
    have fR3 := bR.frozen 3
    have fR4 := bR.frozen 4
    have lR := bR.lt
    go_wp2_with fail
    refine bodyPost_ret (res_name2 (bR.set5 _ _ _ _ _) rfl rfl rfl) rfl ⟨rfl, below_sets5 hb3 (by omega) _ _ _ _ _⟩

set_option maxRecDepth 100000 in
set_option maxHeartbeats 2000000 in
theorem rjName_N_same (ok : Nat → Prop) (x y : Itm) (v : Value) (hlen : x.l.length = 2) (hy : x.l[1]? = some y) (hk : y.k ≠ 3) (hk4 : ¬(y.k = 4 ∧ y.l.length = 2)) (hr : nmR nm0 = true) (hb2 : sameB (itmN nm0) x = true) (w : World) (hx : ItV ok w x v) :
    Calls Tryz.prog 14 #[v] w fun e w' => e = .returned (.tuple #[.agg #[.int .i64 0, .string ⟨#[]⟩, .string ⟨#[]⟩, .int .i64 0, .int .i64 0], .int .i64 0]) ∧ Below w.heap.size w w' := by
  obtain ⟨p, cap, rfl, hcap, hits, -, -, -⟩ := id hx.parts
  have hy' : x.l[1]? = some y := hy
  obtain ⟨a, c0, c1, c2, c3, rfl, hok, e0, e1, e2, e3, hvy⟩ := ItsV.reads x.l 1 y hits hy'
  obtain ⟨p2, cap2, he, -⟩ := hvy.parts
  simp only [Value.agg.injEq, Array.mk.injEq, List.cons.injEq, and_true] at he
  obtain ⟨rfl, rfl, rfl, rfl⟩ := he
  have g1 : ((x.l.length : Int) == 2) = true := by simp; omega
  have g2 : (x.l.length == 2) = true := by simpa using hlen
  have g3 : (1 : Int) < (x.l.length : Int) := by omega
  have g4 : 1 < x.l.length := by omega
  rw [show a.add (1 * 4) = ⟨a.block, a.off + 4, none⟩ from add_pos _ _ (by decide)] at e0 e1 e2 e3
  simp only at e1 e2 e3
  have HVY := Lib.hid hvy
  have HLEN := Lib.hid hlen
  clear hy hy' hits hvy hcap hlen
  have HLY := Lib.hid (show layI nm0 = (itmN nm0, 0) by unfold layI; rw [hr]; rfl)
  clear hr
  have HS2 := Lib.hid hb2
  clear hb2
  have ra : I64 (0 : Int) := by unfold I64; decide
  have rb : I64 (0 : Int) := ra
  have hn : (⟨#[]⟩ : ByteArray).size ≤ 4000000000 := by decide
  have hv : (⟨#[]⟩ : ByteArray).size ≤ 4000000000 := by decide
  have HSELF := Lib.hid (show nmO 0 ⟨#[]⟩ ⟨#[]⟩ 0 0 = nm0 from rfl)
  have g5 : (y.k == 3) = false := by simpa using hk
  by_cases h4 : y.k = 4
  · have g6 : (y.k == 4) = true := by simp [h4]
    have g7 : y.l.length ≠ 2 := fun h => hk4 ⟨h4, h⟩
    have g8 : ((y.l.length : Int) == 2) = false := by simp; omega
    have g9 : (y.l.length == 2) = false := by simpa using g7
    clear g7
    clear hk hk4 h4
    have bR_ := Blk.new (w.alloc (.cells #[.int .i64 x.k, .int .i64 x.n, .string ⟨x.s.toArray⟩, .slice (some a) x.l.length cap] 26)) 23 #[.int .i64 0, .string ⟨#[]⟩, .string ⟨#[]⟩, .int .i64 0, .int .i64 0]
    simp only [World.size_alloc] at bR_
    have bE_ := Blk.new ((w.alloc (.cells #[.int .i64 x.k, .int .i64 x.n, .string ⟨x.s.toArray⟩, .slice (some a) x.l.length cap] 26)).alloc (.cells #[.int .i64 0, .string ⟨#[]⟩, .string ⟨#[]⟩, .int .i64 0, .int .i64 0] 23)) 23 #[.int .i64 0, .string ⟨#[]⟩, .string ⟨#[]⟩, .int .i64 0, .int .i64 0]
    simp only [World.size_alloc] at bE_
    have bY_ := Blk.new (((w.alloc (.cells #[.int .i64 x.k, .int .i64 x.n, .string ⟨x.s.toArray⟩, .slice (some a) x.l.length cap] 26)).alloc (.cells #[.int .i64 0, .string ⟨#[]⟩, .string ⟨#[]⟩, .int .i64 0, .int .i64 0] 23)).alloc (.cells #[.int .i64 0, .string ⟨#[]⟩, .string ⟨#[]⟩, .int .i64 0, .int .i64 0] 23)) 26 #[.int .i64 y.k, .int .i64 y.n, .string ⟨y.s.toArray⟩, .slice p2 y.l.length cap2]
    simp only [World.size_alloc] at bY_
    have bX : Blk ((((w.alloc (.cells #[.int .i64 x.k, .int .i64 x.n, .string ⟨x.s.toArray⟩, .slice (some a) x.l.length cap] 26)).alloc (.cells #[.int .i64 0, .string ⟨#[]⟩, .string ⟨#[]⟩, .int .i64 0, .int .i64 0] 23)).alloc (.cells #[.int .i64 0, .string ⟨#[]⟩, .string ⟨#[]⟩, .int .i64 0, .int .i64 0] 23)).alloc (.cells #[.int .i64 y.k, .int .i64 y.n, .string ⟨y.s.toArray⟩, .slice p2 y.l.length cap2] 26)) (w.heap.size) 26 #[.int .i64 x.k, .int .i64 x.n, .string ⟨x.s.toArray⟩, .slice (some a) x.l.length cap] := (((Blk.new w _ _).alloc _).alloc _).alloc _
    have bR : Blk ((((w.alloc (.cells #[.int .i64 x.k, .int .i64 x.n, .string ⟨x.s.toArray⟩, .slice (some a) x.l.length cap] 26)).alloc (.cells #[.int .i64 0, .string ⟨#[]⟩, .string ⟨#[]⟩, .int .i64 0, .int .i64 0] 23)).alloc (.cells #[.int .i64 0, .string ⟨#[]⟩, .string ⟨#[]⟩, .int .i64 0, .int .i64 0] 23)).alloc (.cells #[.int .i64 y.k, .int .i64 y.n, .string ⟨y.s.toArray⟩, .slice p2 y.l.length cap2] 26)) (w.heap.size + 1) 23 #[.int .i64 0, .string ⟨#[]⟩, .string ⟨#[]⟩, .int .i64 0, .int .i64 0] := ((bR_).alloc _).alloc _
    have bE : Blk ((((w.alloc (.cells #[.int .i64 x.k, .int .i64 x.n, .string ⟨x.s.toArray⟩, .slice (some a) x.l.length cap] 26)).alloc (.cells #[.int .i64 0, .string ⟨#[]⟩, .string ⟨#[]⟩, .int .i64 0, .int .i64 0] 23)).alloc (.cells #[.int .i64 0, .string ⟨#[]⟩, .string ⟨#[]⟩, .int .i64 0, .int .i64 0] 23)).alloc (.cells #[.int .i64 y.k, .int .i64 y.n, .string ⟨y.s.toArray⟩, .slice p2 y.l.length cap2] 26)) (w.heap.size + 1 + 1) 23 #[.int .i64 0, .string ⟨#[]⟩, .string ⟨#[]⟩, .int .i64 0, .int .i64 0] := (bE_).alloc _
    have bY : Blk ((((w.alloc (.cells #[.int .i64 x.k, .int .i64 x.n, .string ⟨x.s.toArray⟩, .slice (some a) x.l.length cap] 26)).alloc (.cells #[.int .i64 0, .string ⟨#[]⟩, .string ⟨#[]⟩, .int .i64 0, .int .i64 0] 23)).alloc (.cells #[.int .i64 0, .string ⟨#[]⟩, .string ⟨#[]⟩, .int .i64 0, .int .i64 0] 23)).alloc (.cells #[.int .i64 y.k, .int .i64 y.n, .string ⟨y.s.toArray⟩, .slice p2 y.l.length cap2] 26)) (w.heap.size + 1 + 1 + 1) 26 #[.int .i64 y.k, .int .i64 y.n, .string ⟨y.s.toArray⟩, .slice p2 y.l.length cap2] := bY_
    have hb : Below w.heap.size w ((((w.alloc (.cells #[.int .i64 x.k, .int .i64 x.n, .string ⟨x.s.toArray⟩, .slice (some a) x.l.length cap] 26)).alloc (.cells #[.int .i64 0, .string ⟨#[]⟩, .string ⟨#[]⟩, .int .i64 0, .int .i64 0] 23)).alloc (.cells #[.int .i64 0, .string ⟨#[]⟩, .string ⟨#[]⟩, .int .i64 0, .int .i64 0] 23)).alloc (.cells #[.int .i64 y.k, .int .i64 y.n, .string ⟨y.s.toArray⟩, .slice p2 y.l.length cap2] 26)) := (((((Below.refl _ w).alloc (Nat.le_refl _) _).alloc (by simp; try omega) _).alloc (by simp; try omega) _).alloc (by simp; try omega) _)
    have hx0 := hx.below hb
    clear bR_
    clear bE_
    clear bY_
    have h3 : Below w.heap.size w (((w.alloc (.cells #[.int .i64 x.k, .int .i64 x.n, .string ⟨x.s.toArray⟩, .slice (some a) x.l.length cap] 26)).alloc (.cells #[.int .i64 0, .string ⟨#[]⟩, .string ⟨#[]⟩, .int .i64 0, .int .i64 0] 23)).alloc (.cells #[.int .i64 0, .string ⟨#[]⟩, .string ⟨#[]⟩, .int .i64 0, .int .i64 0] 23)) := (((Below.refl _ w).alloc (Nat.le_refl _) _).alloc (by simp; try omega) _).alloc (by simp; try omega) _
    have d0 := (h3.cell (World.block_lt_of_cell? _ _ e0)).trans e0
    have d1 := (h3.cell (World.block_lt_of_cell? _ _ e1)).trans e1
    have d2 := (h3.cell (World.block_lt_of_cell? _ _ e2)).trans e2
    have d3 := (h3.cell (World.block_lt_of_cell? _ _ e3)).trans e3
    clear h3 e0 e1 e2 e3
    obtain ⟨cX0, cX1, cX2, cX3⟩ := bX.four
    have lX := bX.lt
    obtain ⟨cE0, cE1, cE2, cE3, cE4⟩ := bE.five
    have lE := bE.lt
    obtain ⟨cY0, cY1, cY2, cY3⟩ := bY.four
    have lY := bY.lt
    go_enter Tryz.func14, Tryz.ntmps14
    go_wp2_with fail
    generalize ((((w.alloc (.cells #[.int .i64 x.k, .int .i64 x.n, .string ⟨x.s.toArray⟩, .slice (some a) x.l.length cap] 26)).alloc (.cells #[.int .i64 0, .string ⟨#[]⟩, .string ⟨#[]⟩, .int .i64 0, .int .i64 0] 23)).alloc (.cells #[.int .i64 0, .string ⟨#[]⟩, .string ⟨#[]⟩, .int .i64 0, .int .i64 0] 23)).alloc (.cells #[.int .i64 y.k, .int .i64 y.n, .string ⟨y.s.toArray⟩, .slice p2 y.l.length cap2] 26)) = w0 at *
    clear d0 d1 d2 d3
    clear cX0 cX1 cX2 cX3 lX
    clear cY0 cY1 cY2 cY3 lY
    refine (rjItem_any 0 ⟨#[]⟩ ⟨#[]⟩ 0 0 _ _ ((congrArg layI HSELF.out).trans HLY.out) w0 hn hv ra rb).mono ?_
    rintro e w1 ⟨⟨k1, m1, s1, p1, l1, c1, rfl, hI⟩, hc1⟩
    have hb1 := hb.trans (hc1.mono hb.size)
    replace bX := bX.here hc1
    replace bR := bR.here hc1
    replace bE := bE.here hc1
    replace bY := bY.here hc1
    have hx1 := hx0.below hc1
    clear hx0
    clear hc1 hb
    clear cE0 cE1 cE2 cE3 cE4 lE
    have hc2 : Below w1.heap.size w1 (w1.alloc (.cells #[.int .i64 k1, .int .i64 m1, .string s1, .slice p1 l1 c1] 26)) := (Below.refl _ _).alloc (Nat.le_refl _) _
    have bO : Blk (w1.alloc (.cells #[.int .i64 k1, .int .i64 m1, .string s1, .slice p1 l1 c1] 26)) w1.heap.size 26 #[.int .i64 k1, .int .i64 m1, .string s1, .slice p1 l1 c1] := Blk.new _ _ _
    have hb2 := hb1.trans (hc2.mono hb1.size)
    replace bX := bX.here hc2
    replace bR := bR.here hc2
    replace bE := bE.here hc2
    replace bY := bY.here hc2
    have hx2 := hx1.below hc2
    clear hx1
    have hI2 := hI.below hc2
    clear hc2 hb1
    obtain ⟨cO0, cO1, cO2, cO3⟩ := bO.four
    have lO := bO.lt
    obtain ⟨cX0, cX1, cX2, cX3⟩ := bX.four
    have lX := bX.lt
    go_wp2_with fail
    generalize (w1.alloc (.cells #[.int .i64 k1, .int .i64 m1, .string s1, .slice p1 l1 c1] 26)) = w2 at *
    refine (rsame_any _ ok 3 (itmN nm0) x _ _ w2 (itm_dep _) hI2 hx2).mono ?_
    rintro e w3 ⟨rfl, hc3⟩
    have hb3 := hb2.trans (hc3.mono hb2.size)
    replace bX := bX.here hc3
    replace bR := bR.here hc3
    replace bE := bE.here hc3
    replace bY := bY.here hc3
    replace bO := bO.here hc3
    have hx3 := hx2.below hc3
    clear hx2
    have hI3 := hI2.below hc3
    clear hI2
    clear hc3 hb2
    rw [HS2.out]
    clear cO0 cO1 cO2 cO3 lO
    clear cX0 cX1 cX2 cX3 lX
    obtain ⟨cR0, cR1, cR2, cR3, cR4⟩ := bR.five
    have fR0 := bR.frozen 0
    have fR1 := bR.frozen 1
    have fR2 := bR.frozen 2
    have fR3 := bR.frozen 3
    have fR4 := bR.frozen 4
    have lR := bR.lt
    obtain ⟨cE0, cE1, cE2, cE3, cE4⟩ := bE.five
    have lE := bE.lt
    go_wp2_with fail
    refine bodyPost_ret (res_name2 (bR.set5 _ _ _ _ _) rfl rfl rfl) rfl ⟨rfl, below_sets5 hb3 (by omega) _ _ _ _ _⟩
  · have g6 : (y.k == 4) = false := by simpa using h4
    clear hk hk4 h4
    have bR_ := Blk.new (w.alloc (.cells #[.int .i64 x.k, .int .i64 x.n, .string ⟨x.s.toArray⟩, .slice (some a) x.l.length cap] 26)) 23 #[.int .i64 0, .string ⟨#[]⟩, .string ⟨#[]⟩, .int .i64 0, .int .i64 0]
    simp only [World.size_alloc] at bR_
    have bE_ := Blk.new ((w.alloc (.cells #[.int .i64 x.k, .int .i64 x.n, .string ⟨x.s.toArray⟩, .slice (some a) x.l.length cap] 26)).alloc (.cells #[.int .i64 0, .string ⟨#[]⟩, .string ⟨#[]⟩, .int .i64 0, .int .i64 0] 23)) 23 #[.int .i64 0, .string ⟨#[]⟩, .string ⟨#[]⟩, .int .i64 0, .int .i64 0]
    simp only [World.size_alloc] at bE_
    have bY_ := Blk.new (((w.alloc (.cells #[.int .i64 x.k, .int .i64 x.n, .string ⟨x.s.toArray⟩, .slice (some a) x.l.length cap] 26)).alloc (.cells #[.int .i64 0, .string ⟨#[]⟩, .string ⟨#[]⟩, .int .i64 0, .int .i64 0] 23)).alloc (.cells #[.int .i64 0, .string ⟨#[]⟩, .string ⟨#[]⟩, .int .i64 0, .int .i64 0] 23)) 26 #[.int .i64 y.k, .int .i64 y.n, .string ⟨y.s.toArray⟩, .slice p2 y.l.length cap2]
    simp only [World.size_alloc] at bY_
    have bX : Blk ((((w.alloc (.cells #[.int .i64 x.k, .int .i64 x.n, .string ⟨x.s.toArray⟩, .slice (some a) x.l.length cap] 26)).alloc (.cells #[.int .i64 0, .string ⟨#[]⟩, .string ⟨#[]⟩, .int .i64 0, .int .i64 0] 23)).alloc (.cells #[.int .i64 0, .string ⟨#[]⟩, .string ⟨#[]⟩, .int .i64 0, .int .i64 0] 23)).alloc (.cells #[.int .i64 y.k, .int .i64 y.n, .string ⟨y.s.toArray⟩, .slice p2 y.l.length cap2] 26)) (w.heap.size) 26 #[.int .i64 x.k, .int .i64 x.n, .string ⟨x.s.toArray⟩, .slice (some a) x.l.length cap] := (((Blk.new w _ _).alloc _).alloc _).alloc _
    have bR : Blk ((((w.alloc (.cells #[.int .i64 x.k, .int .i64 x.n, .string ⟨x.s.toArray⟩, .slice (some a) x.l.length cap] 26)).alloc (.cells #[.int .i64 0, .string ⟨#[]⟩, .string ⟨#[]⟩, .int .i64 0, .int .i64 0] 23)).alloc (.cells #[.int .i64 0, .string ⟨#[]⟩, .string ⟨#[]⟩, .int .i64 0, .int .i64 0] 23)).alloc (.cells #[.int .i64 y.k, .int .i64 y.n, .string ⟨y.s.toArray⟩, .slice p2 y.l.length cap2] 26)) (w.heap.size + 1) 23 #[.int .i64 0, .string ⟨#[]⟩, .string ⟨#[]⟩, .int .i64 0, .int .i64 0] := ((bR_).alloc _).alloc _
    have bE : Blk ((((w.alloc (.cells #[.int .i64 x.k, .int .i64 x.n, .string ⟨x.s.toArray⟩, .slice (some a) x.l.length cap] 26)).alloc (.cells #[.int .i64 0, .string ⟨#[]⟩, .string ⟨#[]⟩, .int .i64 0, .int .i64 0] 23)).alloc (.cells #[.int .i64 0, .string ⟨#[]⟩, .string ⟨#[]⟩, .int .i64 0, .int .i64 0] 23)).alloc (.cells #[.int .i64 y.k, .int .i64 y.n, .string ⟨y.s.toArray⟩, .slice p2 y.l.length cap2] 26)) (w.heap.size + 1 + 1) 23 #[.int .i64 0, .string ⟨#[]⟩, .string ⟨#[]⟩, .int .i64 0, .int .i64 0] := (bE_).alloc _
    have bY : Blk ((((w.alloc (.cells #[.int .i64 x.k, .int .i64 x.n, .string ⟨x.s.toArray⟩, .slice (some a) x.l.length cap] 26)).alloc (.cells #[.int .i64 0, .string ⟨#[]⟩, .string ⟨#[]⟩, .int .i64 0, .int .i64 0] 23)).alloc (.cells #[.int .i64 0, .string ⟨#[]⟩, .string ⟨#[]⟩, .int .i64 0, .int .i64 0] 23)).alloc (.cells #[.int .i64 y.k, .int .i64 y.n, .string ⟨y.s.toArray⟩, .slice p2 y.l.length cap2] 26)) (w.heap.size + 1 + 1 + 1) 26 #[.int .i64 y.k, .int .i64 y.n, .string ⟨y.s.toArray⟩, .slice p2 y.l.length cap2] := bY_
    have hb : Below w.heap.size w ((((w.alloc (.cells #[.int .i64 x.k, .int .i64 x.n, .string ⟨x.s.toArray⟩, .slice (some a) x.l.length cap] 26)).alloc (.cells #[.int .i64 0, .string ⟨#[]⟩, .string ⟨#[]⟩, .int .i64 0, .int .i64 0] 23)).alloc (.cells #[.int .i64 0, .string ⟨#[]⟩, .string ⟨#[]⟩, .int .i64 0, .int .i64 0] 23)).alloc (.cells #[.int .i64 y.k, .int .i64 y.n, .string ⟨y.s.toArray⟩, .slice p2 y.l.length cap2] 26)) := (((((Below.refl _ w).alloc (Nat.le_refl _) _).alloc (by simp; try omega) _).alloc (by simp; try omega) _).alloc (by simp; try omega) _)
    have hx0 := hx.below hb
    clear bR_
    clear bE_
    clear bY_
    have h3 : Below w.heap.size w (((w.alloc (.cells #[.int .i64 x.k, .int .i64 x.n, .string ⟨x.s.toArray⟩, .slice (some a) x.l.length cap] 26)).alloc (.cells #[.int .i64 0, .string ⟨#[]⟩, .string ⟨#[]⟩, .int .i64 0, .int .i64 0] 23)).alloc (.cells #[.int .i64 0, .string ⟨#[]⟩, .string ⟨#[]⟩, .int .i64 0, .int .i64 0] 23)) := (((Below.refl _ w).alloc (Nat.le_refl _) _).alloc (by simp; try omega) _).alloc (by simp; try omega) _
    have d0 := (h3.cell (World.block_lt_of_cell? _ _ e0)).trans e0
    have d1 := (h3.cell (World.block_lt_of_cell? _ _ e1)).trans e1
    have d2 := (h3.cell (World.block_lt_of_cell? _ _ e2)).trans e2
    have d3 := (h3.cell (World.block_lt_of_cell? _ _ e3)).trans e3
    clear h3 e0 e1 e2 e3
    obtain ⟨cX0, cX1, cX2, cX3⟩ := bX.four
    have lX := bX.lt
    obtain ⟨cE0, cE1, cE2, cE3, cE4⟩ := bE.five
    have lE := bE.lt
    obtain ⟨cY0, cY1, cY2, cY3⟩ := bY.four
    have lY := bY.lt
    go_enter Tryz.func14, Tryz.ntmps14
    go_wp2_with fail
    generalize ((((w.alloc (.cells #[.int .i64 x.k, .int .i64 x.n, .string ⟨x.s.toArray⟩, .slice (some a) x.l.length cap] 26)).alloc (.cells #[.int .i64 0, .string ⟨#[]⟩, .string ⟨#[]⟩, .int .i64 0, .int .i64 0] 23)).alloc (.cells #[.int .i64 0, .string ⟨#[]⟩, .string ⟨#[]⟩, .int .i64 0, .int .i64 0] 23)).alloc (.cells #[.int .i64 y.k, .int .i64 y.n, .string ⟨y.s.toArray⟩, .slice p2 y.l.length cap2] 26)) = w0 at *
    clear d0 d1 d2 d3
    clear cX0 cX1 cX2 cX3 lX
    clear cY0 cY1 cY2 cY3 lY
    refine (rjItem_any 0 ⟨#[]⟩ ⟨#[]⟩ 0 0 _ _ ((congrArg layI HSELF.out).trans HLY.out) w0 hn hv ra rb).mono ?_
    rintro e w1 ⟨⟨k1, m1, s1, p1, l1, c1, rfl, hI⟩, hc1⟩
    have hb1 := hb.trans (hc1.mono hb.size)
    replace bX := bX.here hc1
    replace bR := bR.here hc1
    replace bE := bE.here hc1
    replace bY := bY.here hc1
    have hx1 := hx0.below hc1
    clear hx0
    clear hc1 hb
    clear cE0 cE1 cE2 cE3 cE4 lE
    have hc2 : Below w1.heap.size w1 (w1.alloc (.cells #[.int .i64 k1, .int .i64 m1, .string s1, .slice p1 l1 c1] 26)) := (Below.refl _ _).alloc (Nat.le_refl _) _
    have bO : Blk (w1.alloc (.cells #[.int .i64 k1, .int .i64 m1, .string s1, .slice p1 l1 c1] 26)) w1.heap.size 26 #[.int .i64 k1, .int .i64 m1, .string s1, .slice p1 l1 c1] := Blk.new _ _ _
    have hb2 := hb1.trans (hc2.mono hb1.size)
    replace bX := bX.here hc2
    replace bR := bR.here hc2
    replace bE := bE.here hc2
    replace bY := bY.here hc2
    have hx2 := hx1.below hc2
    clear hx1
    have hI2 := hI.below hc2
    clear hc2 hb1
    obtain ⟨cO0, cO1, cO2, cO3⟩ := bO.four
    have lO := bO.lt
    obtain ⟨cX0, cX1, cX2, cX3⟩ := bX.four
    have lX := bX.lt
    go_wp2_with fail
    generalize (w1.alloc (.cells #[.int .i64 k1, .int .i64 m1, .string s1, .slice p1 l1 c1] 26)) = w2 at *
    refine (rsame_any _ ok 3 (itmN nm0) x _ _ w2 (itm_dep _) hI2 hx2).mono ?_
    rintro e w3 ⟨rfl, hc3⟩
    have hb3 := hb2.trans (hc3.mono hb2.size)
    replace bX := bX.here hc3
    replace bR := bR.here hc3
    replace bE := bE.here hc3
    replace bY := bY.here hc3
    replace bO := bO.here hc3
    have hx3 := hx2.below hc3
    clear hx2
    have hI3 := hI2.below hc3
    clear hI2
    clear hc3 hb2
    rw [HS2.out]
    clear cO0 cO1 cO2 cO3 lO
    clear cX0 cX1 cX2 cX3 lX
    obtain ⟨cR0, cR1, cR2, cR3, cR4⟩ := bR.five
    have fR0 := bR.frozen 0
    have fR1 := bR.frozen 1
    have fR2 := bR.frozen 2
    have fR3 := bR.frozen 3
    have fR4 := bR.frozen 4
    have lR := bR.lt
    obtain ⟨cE0, cE1, cE2, cE3, cE4⟩ := bE.five
    have lE := bE.lt
    go_wp2_with fail
    refine bodyPost_ret (res_name2 (bR.set5 _ _ _ _ _) rfl rfl rfl) rfl ⟨rfl, below_sets5 hb3 (by omega) _ _ _ _ _⟩

end Go.Proofs.YtmbmolgkccjedaaGreatDoor
