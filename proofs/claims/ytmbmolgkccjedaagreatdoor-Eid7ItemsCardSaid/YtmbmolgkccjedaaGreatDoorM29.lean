/- The document's Name, whole; its Encode and Decode (package postriderref10). -/
import Derived.Test.YtmbmolgkccjedaaGreatDoorJRefM
import Derived.Test.YtmbmolgkccjedaaGreatDoorM26
import Derived.Test.YtmbmolgkccjedaaGreatDoorM28
import Derived.Test.YtmbmolgkccjedaaGreatDoorM25
set_option linter.unusedVariables false
set_option linter.unusedSimpArgs false
namespace Go.Proofs.YtmbmolgkccjedaaGreatDoor
open Go.RowKit
attribute [local go_sem ↓] Go.wp_at_zero Go.wp_at_succ

theorem rjName_any (ok : Nat → Prop) (x : Itm) (v : Value) (w : World) (hx : ItV ok w x v) (hs : (prt x 1).s.length ≤ 4000000000) :
    Calls Tryz.prog 14 #[v] w fun e w' => e = .returned (.tuple #[nmX (nmI x), .int .i64 (erX (nmI x))]) ∧ Below w.heap.size w w' := by
  have e := rdX_rgR x
  rw [← (Prod.mk.inj e).1, ← (Prod.mk.inj e).2]
  clear e
  have h00 : nmR nm0 = true := rfl
  unfold rdX
  by_cases hlen : x.l.length = 2
  · obtain ⟨y, hy⟩ : ∃ y, x.l[1]? = some y := ⟨_, List.getElem?_eq_getElem (by omega)⟩
    have hp : prt x 1 = y := prt_some hy
    rw [hp] at hs
    by_cases h3 : y.k = 3
    · have ho : rgR x = (jnR [100, 116, 110] y.s).getD nm0 := by unfold rgR; rw [if_pos hlen, hp, if_pos h3]
      have hr : nmR (rgR x) = true := by
        rw [ho]
        cases h : jnR [100, 116, 110] y.s with
        | none => rfl
        | some e => exact (jnR_back h).1
      obtain ⟨ra, rb⟩ := rgR_i64 hx
      obtain ⟨l1, l2⟩ := rgR_len x
      rw [hr]
      cases hb : sameB (itmN (rgR x)) x with
      | false => exact rjName_T_diff ok x y v (rgR x) hlen hy h3 ho.symm hs l1 l2 hr hb w hx ra rb
      | true => exact rjName_T_same ok x y v (rgR x) hlen hy h3 ho.symm hs l1 l2 hr hb w hx ra rb
    · by_cases h4 : y.k = 4 ∧ y.l.length = 2
      · obtain ⟨z0, hz0⟩ : ∃ z, y.l[0]? = some z := ⟨_, List.getElem?_eq_getElem (by omega)⟩
        obtain ⟨z1, hz1⟩ : ∃ z, y.l[1]? = some z := ⟨_, List.getElem?_eq_getElem (by omega)⟩
        have ho : rgR x = ⟨2, [], [], z0.n, z1.n⟩ := by unfold rgR; rw [if_pos hlen, hp, if_neg h3, if_pos h4, prt_some hz0, prt_some hz1]
        obtain ⟨ra, rb⟩ := rgR_i64 hx
        have ra' : I64 z0.n := by rw [ho] at ra; exact ra
        have rb' : I64 z1.n := by rw [ho] at rb; exact rb
        have hw : nmW (rgR x) = .agg #[.int .i64 2, .string ⟨#[]⟩, .string ⟨#[]⟩, .int .i64 z0.n, .int .i64 z1.n] := by rw [ho]; rfl
        cases hr : nmR (rgR x) with
        | false => exact rjName_L_no ok x y z0 z1 v (rgR x) ho hlen hy h4.1 h4.2 hz0 hz1 hr w hx ra' rb'
        | true =>
          cases hb : sameB (itmN (rgR x)) x with
          | false => exact rjName_L_diff ok x y z0 z1 v (rgR x) ho hlen hy h4.1 h4.2 hz0 hz1 hr hb w hx ra' rb'
          | true =>
            simp only [if_true]
            rw [hw]
            exact rjName_L_same ok x y z0 z1 v (rgR x) ho hlen hy h4.1 h4.2 hz0 hz1 hr hb w hx ra' rb'
      · have ho : rgR x = nm0 := by unfold rgR; rw [if_pos hlen, hp, if_neg h3, if_neg h4]
        rw [ho, h00]
        cases hb : sameB (itmN nm0) x with
        | false => exact rjName_N_diff ok x y v hlen hy h3 h4 h00 hb w hx
        | true => exact rjName_N_same ok x y v hlen hy h3 h4 h00 hb w hx
  · have ho : rgR x = nm0 := by unfold rgR; rw [if_neg hlen]
    rw [ho, h00]
    cases hb : sameB (itmN nm0) x with
    | false => exact rjName_A_diff ok x v hlen h00 hb w hx
    | true => exact rjName_A_same ok x v hlen h00 hb w hx

set_option maxRecDepth 100000 in
set_option maxHeartbeats 2000000 in
theorem rjEncode_any (k : Int) (nd sv : ByteArray) (a b : Int) (w : World) (hn : nd.size ≤ 4000000000) (hv : sv.size ≤ 4000000000) (ha : I64 a) (hb9 : I64 b) :
    Calls Tryz.prog 18 #[.agg #[.int .i64 k, .string nd, .string sv, .int .i64 a, .int .i64 b]] w fun e w' => e = .returned (.tuple #[.string (encN (nmO k nd sv a b)).1, .int .i64 (encN (nmO k nd sv a b)).2]) ∧ Below w.heap.size w w' := by
  cases hr : nmR (nmO k nd sv a b) with
  | false =>
    rw [encN_no hr]
    have HLY := Lib.hid (show layI (nmO k nd sv a b) = (zerI, 60) by unfold layI; rw [hr]; rfl)
    clear hr
    have bN : Blk (w.alloc (.cells #[.int .i64 k, .string nd, .string sv, .int .i64 a, .int .i64 b] 23)) (w.heap.size) 23 #[.int .i64 k, .string nd, .string sv, .int .i64 a, .int .i64 b] := Blk.new w _ _
    have hb : Below w.heap.size w (w.alloc (.cells #[.int .i64 k, .string nd, .string sv, .int .i64 a, .int .i64 b] 23)) := ((Below.refl _ w).alloc (Nat.le_refl _) _)
    obtain ⟨cN0, cN1, cN2, cN3, cN4⟩ := bN.five
    have lN := bN.lt
    go_enter Tryz.func18, Tryz.ntmps18
    go_wp2_with fail
    generalize (w.alloc (.cells #[.int .i64 k, .string nd, .string sv, .int .i64 a, .int .i64 b] 23)) = w0 at *
    refine (rjItem_any k nd sv a b _ _ HLY.out w0 hn hv ha hb9).mono ?_
    rintro e w1 ⟨⟨k1, m1, s1, p1, l1, c1, rfl, hI⟩, hc1⟩
    have hb1 := hb.trans (hc1.mono hb.size)
    replace bN := bN.here hc1
    clear hc1 hb
    clear cN0 cN1 cN2 cN3 cN4 lN
    have hc2 : Below w1.heap.size w1 (w1.alloc (.cells #[.int .i64 k1, .int .i64 m1, .string s1, .slice p1 l1 c1] 26)) := (Below.refl _ _).alloc (Nat.le_refl _) _
    have bO : Blk (w1.alloc (.cells #[.int .i64 k1, .int .i64 m1, .string s1, .slice p1 l1 c1] 26)) w1.heap.size 26 #[.int .i64 k1, .int .i64 m1, .string s1, .slice p1 l1 c1] := Blk.new _ _ _
    have hb2 := hb1.trans (hc2.mono hb1.size)
    replace bN := bN.here hc2
    clear hc2 hb1
    go_wp2_with fail
    generalize (w1.alloc (.cells #[.int .i64 k1, .int .i64 m1, .string s1, .slice p1 l1 c1] 26)) = w2 at *
    go_ret2
    exact ⟨rfl, hb2⟩
  | true =>
    rw [encN_yes hr]
    have hie := iencB_ok (itm_right hr)
    have HIE := Lib.hid hie
    have HLY := Lib.hid (show layI (nmO k nd sv a b) = (itmN (nmO k nd sv a b), 0) by unfold layI; rw [hr]; rfl)
    clear hr hie
    have bN : Blk (w.alloc (.cells #[.int .i64 k, .string nd, .string sv, .int .i64 a, .int .i64 b] 23)) (w.heap.size) 23 #[.int .i64 k, .string nd, .string sv, .int .i64 a, .int .i64 b] := Blk.new w _ _
    have hb : Below w.heap.size w (w.alloc (.cells #[.int .i64 k, .string nd, .string sv, .int .i64 a, .int .i64 b] 23)) := ((Below.refl _ w).alloc (Nat.le_refl _) _)
    obtain ⟨cN0, cN1, cN2, cN3, cN4⟩ := bN.five
    have lN := bN.lt
    go_enter Tryz.func18, Tryz.ntmps18
    go_wp2_with fail
    generalize (w.alloc (.cells #[.int .i64 k, .string nd, .string sv, .int .i64 a, .int .i64 b] 23)) = w0 at *
    refine (rjItem_any k nd sv a b _ _ HLY.out w0 hn hv ha hb9).mono ?_
    rintro e w1 ⟨⟨k1, m1, s1, p1, l1, c1, rfl, hI⟩, hc1⟩
    have hb1 := hb.trans (hc1.mono hb.size)
    replace bN := bN.here hc1
    clear hc1 hb
    clear cN0 cN1 cN2 cN3 cN4 lN
    have hc2 : Below w1.heap.size w1 (w1.alloc (.cells #[.int .i64 k1, .int .i64 m1, .string s1, .slice p1 l1 c1] 26)) := (Below.refl _ _).alloc (Nat.le_refl _) _
    have bO : Blk (w1.alloc (.cells #[.int .i64 k1, .int .i64 m1, .string s1, .slice p1 l1 c1] 26)) w1.heap.size 26 #[.int .i64 k1, .int .i64 m1, .string s1, .slice p1 l1 c1] := Blk.new _ _ _
    have hb2 := hb1.trans (hc2.mono hb1.size)
    replace bN := bN.here hc2
    have hI2 := hI.below hc2
    clear hc2 hb1
    obtain ⟨cO0, cO1, cO2, cO3⟩ := bO.four
    have lO := bO.lt
    go_wp2_with fail
    generalize (w1.alloc (.cells #[.int .i64 k1, .int .i64 m1, .string s1, .slice p1 l1 c1] 26)) = w2 at *
    refine (rencI_any _ _ _ w2 hI2).mono ?_
    rintro e w3 ⟨rfl, hc3⟩
    have hb3 := hb2.trans (hc3.mono hb2.size)
    replace bN := bN.here hc3
    replace bO := bO.here hc3
    have hI3 := hI2.below hc3
    clear hI2
    clear hc3 hb2
    rw [HIE.out]
    go_wp2_with fail
    go_ret2
    exact ⟨rfl, hb3⟩

set_option maxRecDepth 100000 in
set_option maxHeartbeats 2000000 in
theorem rjDecode_err (s : ByteArray) (at0 : Int) (x : Itm) (bh er : Int) (hd : decI s at0 = (x, bh, er)) (her : (er != 0) = true) (w : World) (hs : s.size ≤ 1000000) :
    Calls Tryz.prog 20 #[.string s, .int .i64 at0] w fun e w' => e = .returned (.tuple #[.agg #[.int .i64 0, .string ⟨#[]⟩, .string ⟨#[]⟩, .int .i64 0, .int .i64 0], .int .i64 0, .int .i64 er]) ∧ Below w.heap.size w w' := by
  have HD := Lib.hid hd
  clear hd
  have bR : Blk (w.alloc (.cells #[.int .i64 0, .string ⟨#[]⟩, .string ⟨#[]⟩, .int .i64 0, .int .i64 0] 23)) (w.heap.size) 23 #[.int .i64 0, .string ⟨#[]⟩, .string ⟨#[]⟩, .int .i64 0, .int .i64 0] := Blk.new w _ _
  have hb : Below w.heap.size w (w.alloc (.cells #[.int .i64 0, .string ⟨#[]⟩, .string ⟨#[]⟩, .int .i64 0, .int .i64 0] 23)) := ((Below.refl _ w).alloc (Nat.le_refl _) _)
  go_enter Tryz.func20, Tryz.ntmps20
  go_wp2_with fail
  generalize (w.alloc (.cells #[.int .i64 0, .string ⟨#[]⟩, .string ⟨#[]⟩, .int .i64 0, .int .i64 0] 23)) = w0 at *
  refine (rdecodeI_any s at0 w0 hs).mono ?_
  rintro e w1 ⟨k1, n1, s1, p1, l1, c1, rfl, hI, hc1⟩
  have hb1 := hb.trans (hc1.mono hb.size)
  replace bR := bR.here hc1
  rw [HD.out] at hI ⊢
  clear hc1 hb
  have hc2 : Below w1.heap.size w1 (w1.alloc (.cells #[.int .i64 k1, .int .i64 n1, .string s1, .slice p1 l1 c1] 26)) := (Below.refl _ _).alloc (Nat.le_refl _) _
  have bO : Blk (w1.alloc (.cells #[.int .i64 k1, .int .i64 n1, .string s1, .slice p1 l1 c1] 26)) w1.heap.size 26 #[.int .i64 k1, .int .i64 n1, .string s1, .slice p1 l1 c1] := Blk.new _ _ _
  have hb2 := hb1.trans (hc2.mono hb1.size)
  replace bR := bR.here hc2
  have hI2 := hI.below hc2
  clear hc2 hb1
  obtain ⟨cR0, cR1, cR2, cR3, cR4⟩ := bR.five
  have fR0 := bR.frozen 0
  have fR1 := bR.frozen 1
  have fR2 := bR.frozen 2
  have fR3 := bR.frozen 3
  have fR4 := bR.frozen 4
  have lR := bR.lt
  go_wp2_with fail
  generalize (w1.alloc (.cells #[.int .i64 k1, .int .i64 n1, .string s1, .slice p1 l1 c1] 26)) = w2 at *
  refine bodyPost_ret (res_name3 (bR.set5 _ _ _ _ _) rfl rfl rfl rfl) rfl ⟨rfl, below_sets5 hb2 (Nat.le_refl _) _ _ _ _ _⟩

set_option maxRecDepth 100000 in
set_option maxHeartbeats 2000000 in
theorem rjDecode_none (s : ByteArray) (at0 : Int) (x : Itm) (bh : Int) (hd : decI s at0 = (x, bh, 0)) (o : Nm) (hq : nmI x = none) (hsm : (prt x 1).s.length ≤ 4000000000) (w : World) (hs : s.size ≤ 1000000) :
    Calls Tryz.prog 20 #[.string s, .int .i64 at0] w fun e w' => e = .returned (.tuple #[.agg #[.int .i64 0, .string ⟨#[]⟩, .string ⟨#[]⟩, .int .i64 0, .int .i64 0], .int .i64 0, .int .i64 60]) ∧ Below w.heap.size w w' := by
  have HD := Lib.hid hd
  have HQ := Lib.hid hq
  clear hd hq
  have bR : Blk (w.alloc (.cells #[.int .i64 0, .string ⟨#[]⟩, .string ⟨#[]⟩, .int .i64 0, .int .i64 0] 23)) (w.heap.size) 23 #[.int .i64 0, .string ⟨#[]⟩, .string ⟨#[]⟩, .int .i64 0, .int .i64 0] := Blk.new w _ _
  have hb : Below w.heap.size w (w.alloc (.cells #[.int .i64 0, .string ⟨#[]⟩, .string ⟨#[]⟩, .int .i64 0, .int .i64 0] 23)) := ((Below.refl _ w).alloc (Nat.le_refl _) _)
  go_enter Tryz.func20, Tryz.ntmps20
  go_wp2_with fail
  generalize (w.alloc (.cells #[.int .i64 0, .string ⟨#[]⟩, .string ⟨#[]⟩, .int .i64 0, .int .i64 0] 23)) = w0 at *
  refine (rdecodeI_any s at0 w0 hs).mono ?_
  rintro e w1 ⟨k1, n1, s1, p1, l1, c1, rfl, hI, hc1⟩
  have hb1 := hb.trans (hc1.mono hb.size)
  replace bR := bR.here hc1
  rw [HD.out] at hI ⊢
  clear hc1 hb
  have hc2 : Below w1.heap.size w1 (w1.alloc (.cells #[.int .i64 k1, .int .i64 n1, .string s1, .slice p1 l1 c1] 26)) := (Below.refl _ _).alloc (Nat.le_refl _) _
  have bO : Blk (w1.alloc (.cells #[.int .i64 k1, .int .i64 n1, .string s1, .slice p1 l1 c1] 26)) w1.heap.size 26 #[.int .i64 k1, .int .i64 n1, .string s1, .slice p1 l1 c1] := Blk.new _ _ _
  have hb2 := hb1.trans (hc2.mono hb1.size)
  replace bR := bR.here hc2
  have hI2 := hI.below hc2
  clear hc2 hb1
  obtain ⟨cO0, cO1, cO2, cO3⟩ := bO.four
  have lO := bO.lt
  go_wp2_with fail
  generalize (w1.alloc (.cells #[.int .i64 k1, .int .i64 n1, .string s1, .slice p1 l1 c1] 26)) = w2 at *
  refine (rjName_any _ x _ w2 hI2 hsm).mono ?_
  rintro e w3 ⟨rfl, hc3⟩
  have hb3 := hb2.trans (hc3.mono hb2.size)
  replace bR := bR.here hc3
  replace bO := bO.here hc3
  have hI3 := hI2.below hc3
  clear hI2
  clear hc3 hb2
  rw [HQ.out, show nmX (none : Option Nm) = .agg #[.int .i64 0, .string ⟨#[]⟩, .string ⟨#[]⟩, .int .i64 0, .int .i64 0] from rfl, show erX none = 60 from rfl]
  clear cO0 cO1 cO2 cO3 lO
  have hc4 : Below w3.heap.size w3 (w3.alloc (.cells #[.int .i64 0, .string ⟨#[]⟩, .string ⟨#[]⟩, .int .i64 0, .int .i64 0] 23)) := (Below.refl _ _).alloc (Nat.le_refl _) _
  have bE : Blk (w3.alloc (.cells #[.int .i64 0, .string ⟨#[]⟩, .string ⟨#[]⟩, .int .i64 0, .int .i64 0] 23)) w3.heap.size 23 #[.int .i64 0, .string ⟨#[]⟩, .string ⟨#[]⟩, .int .i64 0, .int .i64 0] := Blk.new _ _ _
  have hb4 := hb3.trans (hc4.mono hb3.size)
  replace bR := bR.here hc4
  replace bO := bO.here hc4
  have hI4 := hI3.below hc4
  clear hI3
  clear hc4 hb3
  obtain ⟨cR0, cR1, cR2, cR3, cR4⟩ := bR.five
  have fR0 := bR.frozen 0
  have fR1 := bR.frozen 1
  have fR2 := bR.frozen 2
  have fR3 := bR.frozen 3
  have fR4 := bR.frozen 4
  have lR := bR.lt
  go_wp2_with fail
  generalize (w3.alloc (.cells #[.int .i64 0, .string ⟨#[]⟩, .string ⟨#[]⟩, .int .i64 0, .int .i64 0] 23)) = w4 at *
  refine bodyPost_ret (res_name3 (bR.set5 _ _ _ _ _) rfl rfl rfl rfl) rfl ⟨rfl, below_sets5 hb4 (Nat.le_refl _) _ _ _ _ _⟩

set_option maxRecDepth 100000 in
set_option maxHeartbeats 2000000 in
theorem rjDecode_some (s : ByteArray) (at0 : Int) (x : Itm) (bh : Int) (hd : decI s at0 = (x, bh, 0)) (o : Nm) (hq : nmI x = some o) (hsm : (prt x 1).s.length ≤ 4000000000) (w : World) (hs : s.size ≤ 1000000) :
    Calls Tryz.prog 20 #[.string s, .int .i64 at0] w fun e w' => e = .returned (.tuple #[.agg #[.int .i64 o.k, .string ⟨o.node.toArray⟩, .string ⟨o.serv.toArray⟩, .int .i64 o.a, .int .i64 o.b], .int .i64 bh, .int .i64 0]) ∧ Below w.heap.size w w' := by
  have HD := Lib.hid hd
  have HQ := Lib.hid hq
  clear hd hq
  have bR : Blk (w.alloc (.cells #[.int .i64 0, .string ⟨#[]⟩, .string ⟨#[]⟩, .int .i64 0, .int .i64 0] 23)) (w.heap.size) 23 #[.int .i64 0, .string ⟨#[]⟩, .string ⟨#[]⟩, .int .i64 0, .int .i64 0] := Blk.new w _ _
  have hb : Below w.heap.size w (w.alloc (.cells #[.int .i64 0, .string ⟨#[]⟩, .string ⟨#[]⟩, .int .i64 0, .int .i64 0] 23)) := ((Below.refl _ w).alloc (Nat.le_refl _) _)
  go_enter Tryz.func20, Tryz.ntmps20
  go_wp2_with fail
  generalize (w.alloc (.cells #[.int .i64 0, .string ⟨#[]⟩, .string ⟨#[]⟩, .int .i64 0, .int .i64 0] 23)) = w0 at *
  refine (rdecodeI_any s at0 w0 hs).mono ?_
  rintro e w1 ⟨k1, n1, s1, p1, l1, c1, rfl, hI, hc1⟩
  have hb1 := hb.trans (hc1.mono hb.size)
  replace bR := bR.here hc1
  rw [HD.out] at hI ⊢
  clear hc1 hb
  have hc2 : Below w1.heap.size w1 (w1.alloc (.cells #[.int .i64 k1, .int .i64 n1, .string s1, .slice p1 l1 c1] 26)) := (Below.refl _ _).alloc (Nat.le_refl _) _
  have bO : Blk (w1.alloc (.cells #[.int .i64 k1, .int .i64 n1, .string s1, .slice p1 l1 c1] 26)) w1.heap.size 26 #[.int .i64 k1, .int .i64 n1, .string s1, .slice p1 l1 c1] := Blk.new _ _ _
  have hb2 := hb1.trans (hc2.mono hb1.size)
  replace bR := bR.here hc2
  have hI2 := hI.below hc2
  clear hc2 hb1
  obtain ⟨cO0, cO1, cO2, cO3⟩ := bO.four
  have lO := bO.lt
  go_wp2_with fail
  generalize (w1.alloc (.cells #[.int .i64 k1, .int .i64 n1, .string s1, .slice p1 l1 c1] 26)) = w2 at *
  refine (rjName_any _ x _ w2 hI2 hsm).mono ?_
  rintro e w3 ⟨rfl, hc3⟩
  have hb3 := hb2.trans (hc3.mono hb2.size)
  replace bR := bR.here hc3
  replace bO := bO.here hc3
  have hI3 := hI2.below hc3
  clear hI2
  clear hc3 hb2
  rw [HQ.out, show nmX (some o) = .agg #[.int .i64 o.k, .string ⟨o.node.toArray⟩, .string ⟨o.serv.toArray⟩, .int .i64 o.a, .int .i64 o.b] from rfl, show erX (some o) = 0 from rfl]
  clear cO0 cO1 cO2 cO3 lO
  have hc4 : Below w3.heap.size w3 (w3.alloc (.cells #[.int .i64 o.k, .string ⟨o.node.toArray⟩, .string ⟨o.serv.toArray⟩, .int .i64 o.a, .int .i64 o.b] 23)) := (Below.refl _ _).alloc (Nat.le_refl _) _
  have bE : Blk (w3.alloc (.cells #[.int .i64 o.k, .string ⟨o.node.toArray⟩, .string ⟨o.serv.toArray⟩, .int .i64 o.a, .int .i64 o.b] 23)) w3.heap.size 23 #[.int .i64 o.k, .string ⟨o.node.toArray⟩, .string ⟨o.serv.toArray⟩, .int .i64 o.a, .int .i64 o.b] := Blk.new _ _ _
  have hb4 := hb3.trans (hc4.mono hb3.size)
  replace bR := bR.here hc4
  replace bO := bO.here hc4
  have hI4 := hI3.below hc4
  clear hI3
  clear hc4 hb3
  obtain ⟨cR0, cR1, cR2, cR3, cR4⟩ := bR.five
  have fR0 := bR.frozen 0
  have fR1 := bR.frozen 1
  have fR2 := bR.frozen 2
  have fR3 := bR.frozen 3
  have fR4 := bR.frozen 4
  have lR := bR.lt
  obtain ⟨cE0, cE1, cE2, cE3, cE4⟩ := bE.five
  have lE := bE.lt
  go_wp2_with fail
  generalize (w3.alloc (.cells #[.int .i64 o.k, .string ⟨o.node.toArray⟩, .string ⟨o.serv.toArray⟩, .int .i64 o.a, .int .i64 o.b] 23)) = w4 at *
  refine bodyPost_ret (res_name3 (bR.set5 _ _ _ _ _) rfl rfl rfl rfl) rfl ⟨rfl, below_sets5 hb4 (Nat.le_refl _) _ _ _ _ _⟩

theorem rjDecode_any (s : ByteArray) (at0 : Int) (w : World) (hs : s.size ≤ 1000000) :
    Calls Tryz.prog 20 #[.string s, .int .i64 at0] w fun e w' => e = .returned (.tuple #[nmW (decN s at0).1, .int .i64 (decN s at0).2.1, .int .i64 (decN s at0).2.2]) ∧ Below w.heap.size w w' := by
  unfold decN
  by_cases her : (decI s at0).2.2 = 0
  · rw [if_pos her]
    have hd : decI s at0 = ((decI s at0).1, (decI s at0).2.1, 0) := by rw [← her]
    have hsm := Nat.le_trans (prt_small (decI_right her) 1) (show 600 ≤ 4000000000 by decide)
    cases hq : nmI (decI s at0).1 with
    | none => exact rjDecode_none s at0 _ _ hd nm0 hq hsm w hs
    | some o => exact rjDecode_some s at0 _ _ hd o hq hsm w hs
  · rw [if_neg her]
    have hub : ((decI s at0).2.2 != 0) = true := by simpa using her
    exact rjDecode_err s at0 _ _ _ rfl hub w hs

end Go.Proofs.YtmbmolgkccjedaaGreatDoor

/- What cut and shown, of the statements' package 10, answer. -/
set_option linter.unusedVariables false
set_option linter.unusedSimpArgs false
namespace Go.Proofs.YtmbmolgkccjedaaGreatDoor
open Go.RowKit
attribute [local go_sem ↓] Go.wp_at_zero Go.wp_at_succ

theorem ItV.setc {n : Nat} {W : World} {x : Itm} {v : Value} (h : ItV (fun b => n ≤ b) W x v) {R : Nat} (hR : R < n) (i : Nat) (u : Value) : ItV (fun b => n ≤ b) (W.setCell ⟨R, i, none⟩ u) x v :=
  ItV.keep (fun a v hb e => ⟨by rw [World.cell?_setCell_other _ _ _ _ (by intro h2; have h3 := congrArg Addr.block h2; have h4 : n ≤ a.block := hb; simp only at h3; omega)]; exact e, hb⟩) x v h
theorem ItV.kind {ok : Nat → Prop} {W : World} {x : Itm} {k n : Int} {s : ByteArray} {p : Option Addr} {l c : Nat} (h : ItV ok W x (.agg #[.int .i64 k, .int .i64 n, .string s, .slice p l c])) : k = x.k := by
  obtain ⟨p', cap, e, _⟩ := h.parts
  simp only [Value.agg.injEq, Array.mk.injEq, List.cons.injEq, Value.int.injEq, true_and] at e
  exact e.1
theorem prt_cut (X : Itm) : (prt (cutI 6 X) 1).s.length ≤ 4000000000 := by
  obtain ⟨k, n, s, l⟩ := X
  have h : ∀ (f : Nat) (y : Itm), (cutI f y).s.length ≤ 601 := fun f y => by
    obtain ⟨k', n', s', l'⟩ := y
    cases f with
    | zero => show (s'.take 601).length ≤ 601; exact List.length_take_le _ _
    | succ f => show (s'.take 601).length ≤ 601; exact List.length_take_le _ _
  unfold prt
  cases hg : (cutI 6 (.mk k n s l)).l[1]? with
  | none => exact Nat.zero_le _
  | some y =>
    have hm : y ∈ ((l.take 62).map (cutI 5)) := List.mem_of_getElem? hg
    obtain ⟨z, _, rfl⟩ := List.mem_map.1 hm
    exact Nat.le_trans (h 5 z) (by decide)
theorem encN_small (o : Nm) : (encN o).1.size ≤ 36540 := by
  cases hr : nmR o with
  | false => rw [encN_no hr]; exact Nat.zero_le _
  | true => rw [encN_yes hr]; show (⟨(encI (itmN o)).toArray⟩ : ByteArray).size ≤ _; rw [list_size]; exact enc_small (itm_right hr)
def c300 (s : ByteArray) : ByteArray := s.extract 0 (min s.size 300)
theorem c300_le (s : ByteArray) : (c300 s).size ≤ 300 := by unfold c300; rw [ByteArray.size_extract]; omega
set_option maxHeartbeats 400000 in
theorem lcut_anyJ (s : ByteArray) (w : World) (hs : s.size ≤ maxLen) :
    Calls Tryz.prog 16 #[.string s] w fun e w' => e = .returned (.string (c300 s)) ∧ w = w' := by
  unfold maxLen at hs
  unfold c300
  have e1 : (min (s.size : Int) 300).toNat = min s.size 300 := by omega
  go_enter Tryz.func16, Tryz.ntmps16
  go_wp2
  go_ret
  exact ⟨rfl, rfl⟩
theorem nm_self (v : Value) (k : Int) (nd sv : ByteArray) (a b : Int) (h : v = .agg #[.int .i64 k, .string nd, .string sv, .int .i64 a, .int .i64 b]) (W : World) : (binOp .eql 23 v v).run Tryz.prog W = .ok (.bool true) W := by
  rw [h, nm_eql, nmE_iff.2 ⟨rfl, rfl, rfl, rfl, rfl⟩]
theorem nm_selfn (v : Value) (k : Int) (nd sv : ByteArray) (a b : Int) (h : v = .agg #[.int .i64 k, .string nd, .string sv, .int .i64 a, .int .i64 b]) (W : World) : (binOp .neq 23 v v).run Tryz.prog W = .ok (.bool false) W := by
  rw [h, nm_neq, nmE_iff.2 ⟨rfl, rfl, rfl, rfl, rfl⟩]
  rfl

set_option maxRecDepth 100000 in
set_option maxHeartbeats 4000000 in
theorem shown_anyJ  (w : World) (hE : EnvN w) (hH : HeadOK w) (hA : EnvE w) :
    Calls Tryz.prog 8 #[] w fun e w' => e = .returned (.bool true) ∧ Below w.heap.size w w' := by
  have r1 := Lib.hid (show encN (nmO 2 ⟨#[]⟩ ⟨#[]⟩ 4 7) = (⟨#[130, 2, 130, 4, 7]⟩, 0) by kernel_rfl)
  have r2 := Lib.hid (show encN (nmO 0 ⟨#[]⟩ ⟨#[]⟩ 0 0) = (⟨#[130, 1, 0]⟩, 0) by kernel_rfl)
  have r3 := Lib.hid (show decN ⟨#[97, 130, 2, 130, 4, 7, 98]⟩ 1 = (⟨2, [], [], 4, 7⟩, 6, 0) by kernel_rfl)
  have r4 := Lib.hid (show nmI (lstI [numI 1, numI 1]) = none by kernel_rfl)
  have r5 := Lib.hid (show decN ⟨#[0]⟩ 0 = (⟨0, [], [], 0, 0⟩, 0, 60) by kernel_rfl)
  have z4 : I64 (4 : Int) := by unfold I64; decide
  have z7 : I64 (7 : Int) := by unfold I64; decide
  have z0 : I64 (0 : Int) := by unfold I64; decide
  have e1 : ∀ W : World, (binOp .eql 23 (.agg #[.int .i64 2, .string ⟨#[]⟩, .string ⟨#[]⟩, .int .i64 4, .int .i64 7]) (.agg #[.int .i64 2, .string ⟨#[]⟩, .string ⟨#[]⟩, .int .i64 4, .int .i64 7])).run Tryz.prog W = .ok (.bool true) W := nm_self _ _ _ _ _ _ rfl

  have u1 : (⟨#[97]⟩ : ByteArray) ++ ⟨#[130, 2, 130, 4, 7]⟩ = ⟨#[97, 130, 2, 130, 4, 7]⟩ := by kernel_rfl
  have u2 : (⟨#[97, 130, 2, 130, 4, 7]⟩ : ByteArray) ++ ⟨#[98]⟩ = ⟨#[97, 130, 2, 130, 4, 7, 98]⟩ := by kernel_rfl
  have hb : Below w.heap.size w w := (Below.refl _ w)
  have hE0 := hE.below hb
  have hH0 := hH.below hb
  have hA0 := hA.below hb
  go_enter Tryz.func8, Tryz.ntmps8
  have hc1 : Below w.heap.size w (w.alloc (.cells #[.int .i64 2, .string ⟨#[]⟩, .string ⟨#[]⟩, .int .i64 4, .int .i64 7] 23)) := (Below.refl _ _).alloc (Nat.le_refl _) _
  have bA : Blk (w.alloc (.cells #[.int .i64 2, .string ⟨#[]⟩, .string ⟨#[]⟩, .int .i64 4, .int .i64 7] 23)) w.heap.size 23 #[.int .i64 2, .string ⟨#[]⟩, .string ⟨#[]⟩, .int .i64 4, .int .i64 7] := Blk.new _ _ _
  have hb1 := hb.trans (hc1.mono hb.size)
  have hE1 := hE.below hc1
  have hH1 := hH.below hc1
  have hA1 := hA.below hc1
  clear hc1 hb
  obtain ⟨cA0, cA1, cA2, cA3, cA4⟩ := bA.five
  have fA0 := bA.frozen 0
  have fA1 := bA.frozen 1
  have fA2 := bA.frozen 2
  have fA3 := bA.frozen 3
  have fA4 := bA.frozen 4
  have lA := bA.lt
  go_wp2_with fail
  generalize (w.alloc (.cells #[.int .i64 2, .string ⟨#[]⟩, .string ⟨#[]⟩, .int .i64 4, .int .i64 7] 23)) = w1 at *
  refine (Encode_any 2 ⟨#[]⟩ ⟨#[]⟩ 4 7 w1 hE1 hH1 hA1 z4 z7).mono ?_
  rintro e w2 ⟨rfl, hc2⟩
  have hb2 := hb1.trans (hc2.mono hb1.size)
  replace bA := bA.here hc2
  have hE2 := hE1.below hc2
  clear hE1
  have hH2 := hH1.below hc2
  clear hH1
  have hA2 := hA1.below hc2
  clear hA1
  clear hc2 hb1
  clear cA0 cA1 cA2 cA3 cA4 fA0 fA1 fA2 fA3 fA4 lA
  rw [r1.out]
  go_wp2_with fail
  refine (Encode_any 0 ⟨#[]⟩ ⟨#[]⟩ 0 0 w2 hE2 hH2 hA2 z0 z0).mono ?_
  rintro e w3 ⟨rfl, hc3⟩
  have hb3 := hb2.trans (hc3.mono hb2.size)
  replace bA := bA.here hc3
  have hE3 := hE2.below hc3
  clear hE2
  have hH3 := hH2.below hc3
  clear hH2
  have hA3 := hA2.below hc3
  clear hA2
  clear hc3 hb2
  rw [r2.out]
  go_wp2_with fail
  refine (Decode_any ⟨#[97, 130, 2, 130, 4, 7, 98]⟩ 1 w3 hE3 hH3 hA3 (by decide)).mono ?_
  rintro e w4 ⟨rfl, hc4⟩
  have hb4 := hb3.trans (hc4.mono hb3.size)
  replace bA := bA.here hc4
  have hE4 := hE3.below hc4
  clear hE3
  have hH4 := hH3.below hc4
  clear hH3
  have hA4 := hA3.below hc4
  clear hA3
  clear hc4 hb3
  rw [r3.out]
  simp only [nmW, nmV]
  have hc5 : Below w4.heap.size w4 (w4.alloc (.cells #[.int .i64 2, .string ⟨#[]⟩, .string ⟨#[]⟩, .int .i64 4, .int .i64 7] 23)) := (Below.refl _ _).alloc (Nat.le_refl _) _
  have bB : Blk (w4.alloc (.cells #[.int .i64 2, .string ⟨#[]⟩, .string ⟨#[]⟩, .int .i64 4, .int .i64 7] 23)) w4.heap.size 23 #[.int .i64 2, .string ⟨#[]⟩, .string ⟨#[]⟩, .int .i64 4, .int .i64 7] := Blk.new _ _ _
  have hb5 := hb4.trans (hc5.mono hb4.size)
  replace bA := bA.here hc5
  have hE5 := hE4.below hc5
  clear hE4
  have hH5 := hH4.below hc5
  clear hH4
  have hA5 := hA4.below hc5
  clear hA4
  clear hc5 hb4
  have hc6 : Below (w4.alloc (.cells #[.int .i64 2, .string ⟨#[]⟩, .string ⟨#[]⟩, .int .i64 4, .int .i64 7] 23)).heap.size (w4.alloc (.cells #[.int .i64 2, .string ⟨#[]⟩, .string ⟨#[]⟩, .int .i64 4, .int .i64 7] 23)) ((w4.alloc (.cells #[.int .i64 2, .string ⟨#[]⟩, .string ⟨#[]⟩, .int .i64 4, .int .i64 7] 23)).alloc (.cells #[.int .i64 0, .int .i64 1, .string ⟨#[]⟩, .slice none 0 0, .int .i64 0, .int .i64 1, .string ⟨#[]⟩, .slice none 0 0] 26)) := (Below.refl _ _).alloc (Nat.le_refl _) _
  have bL : Blk ((w4.alloc (.cells #[.int .i64 2, .string ⟨#[]⟩, .string ⟨#[]⟩, .int .i64 4, .int .i64 7] 23)).alloc (.cells #[.int .i64 0, .int .i64 1, .string ⟨#[]⟩, .slice none 0 0, .int .i64 0, .int .i64 1, .string ⟨#[]⟩, .slice none 0 0] 26)) (w4.alloc (.cells #[.int .i64 2, .string ⟨#[]⟩, .string ⟨#[]⟩, .int .i64 4, .int .i64 7] 23)).heap.size 26 #[.int .i64 0, .int .i64 1, .string ⟨#[]⟩, .slice none 0 0, .int .i64 0, .int .i64 1, .string ⟨#[]⟩, .slice none 0 0] := Blk.new _ _ _
  simp only [World.size_alloc] at bL
  have hb6 := hb5.trans (hc6.mono hb5.size)
  replace bA := bA.here hc6
  replace bB := bB.here hc6
  have hE6 := hE5.below hc6
  clear hE5
  have hH6 := hH5.below hc6
  clear hH5
  have hA6 := hA5.below hc6
  clear hA5
  clear hc6 hb5
  go_wp2_with fail
  generalize ((w4.alloc (.cells #[.int .i64 2, .string ⟨#[]⟩, .string ⟨#[]⟩, .int .i64 4, .int .i64 7] 23)).alloc (.cells #[.int .i64 0, .int .i64 1, .string ⟨#[]⟩, .slice none 0 0, .int .i64 0, .int .i64 1, .string ⟨#[]⟩, .slice none 0 0] 26)) = w6 at *
  refine (Name_any (fun _ => True) (lstI [numI 1, numI 1]) _ none r4.out w6 hE6 (ItV.two bL trivial (ItV.num (by decide)) (ItV.num (by decide))) (by decide)).mono ?_
  rintro e w7 ⟨rfl, hc7⟩
  have hb7 := hb6.trans (hc7.mono hb6.size)
  replace bA := bA.here hc7
  replace bB := bB.here hc7
  replace bL := bL.here hc7
  have hE7 := hE6.below hc7
  clear hE6
  have hH7 := hH6.below hc7
  clear hH6
  have hA7 := hA6.below hc7
  clear hA6
  clear hc7 hb6
  clear bL
  rw [show nmX (none : Option Nm) = .agg #[.int .i64 0, .string ⟨#[]⟩, .string ⟨#[]⟩, .int .i64 0, .int .i64 0] from rfl, show erX none = 60 from rfl]
  have hc8 : Below w7.heap.size w7 (w7.alloc (.cells #[.int .i64 0, .string ⟨#[]⟩, .string ⟨#[]⟩, .int .i64 0, .int .i64 0] 23)) := (Below.refl _ _).alloc (Nat.le_refl _) _
  have bC : Blk (w7.alloc (.cells #[.int .i64 0, .string ⟨#[]⟩, .string ⟨#[]⟩, .int .i64 0, .int .i64 0] 23)) w7.heap.size 23 #[.int .i64 0, .string ⟨#[]⟩, .string ⟨#[]⟩, .int .i64 0, .int .i64 0] := Blk.new _ _ _
  have hb8 := hb7.trans (hc8.mono hb7.size)
  replace bA := bA.here hc8
  replace bB := bB.here hc8
  have hE8 := hE7.below hc8
  clear hE7
  have hH8 := hH7.below hc8
  clear hH7
  have hA8 := hA7.below hc8
  clear hA7
  clear hc8 hb7
  go_wp2_with fail
  generalize (w7.alloc (.cells #[.int .i64 0, .string ⟨#[]⟩, .string ⟨#[]⟩, .int .i64 0, .int .i64 0] 23)) = w8 at *
  refine (Decode_any ⟨#[0]⟩ 0 w8 hE8 hH8 hA8 (by decide)).mono ?_
  rintro e w9 ⟨rfl, hc9⟩
  have hb9 := hb8.trans (hc9.mono hb8.size)
  replace bA := bA.here hc9
  replace bB := bB.here hc9
  replace bC := bC.here hc9
  have hE9 := hE8.below hc9
  clear hE8
  have hH9 := hH8.below hc9
  clear hH8
  have hA9 := hA8.below hc9
  clear hA8
  clear hc9 hb8
  rw [r5.out]
  simp only [nmW, nmV]
  have hc10 : Below w9.heap.size w9 (w9.alloc (.cells #[.int .i64 0, .string ⟨#[]⟩, .string ⟨#[]⟩, .int .i64 0, .int .i64 0] 23)) := (Below.refl _ _).alloc (Nat.le_refl _) _
  have bD : Blk (w9.alloc (.cells #[.int .i64 0, .string ⟨#[]⟩, .string ⟨#[]⟩, .int .i64 0, .int .i64 0] 23)) w9.heap.size 23 #[.int .i64 0, .string ⟨#[]⟩, .string ⟨#[]⟩, .int .i64 0, .int .i64 0] := Blk.new _ _ _
  have hb10 := hb9.trans (hc10.mono hb9.size)
  replace bA := bA.here hc10
  replace bB := bB.here hc10
  replace bC := bC.here hc10
  have hE10 := hE9.below hc10
  clear hE9
  have hH10 := hH9.below hc10
  clear hH9
  have hA10 := hA9.below hc10
  clear hA9
  clear hc10 hb9
  obtain ⟨cA0, cA1, cA2, cA3, cA4⟩ := bA.five
  have fA0 := bA.frozen 0
  have fA1 := bA.frozen 1
  have fA2 := bA.frozen 2
  have fA3 := bA.frozen 3
  have fA4 := bA.frozen 4
  have lA := bA.lt
  obtain ⟨cB0, cB1, cB2, cB3, cB4⟩ := bB.five
  have fB0 := bB.frozen 0
  have fB1 := bB.frozen 1
  have fB2 := bB.frozen 2
  have fB3 := bB.frozen 3
  have fB4 := bB.frozen 4
  have lB := bB.lt
  go_wp2_with fail
  generalize (w9.alloc (.cells #[.int .i64 0, .string ⟨#[]⟩, .string ⟨#[]⟩, .int .i64 0, .int .i64 0] 23)) = w10 at *
  go_ret
  exact ⟨rfl, hb10⟩

end Go.Proofs.YtmbmolgkccjedaaGreatDoor
