/- The document's answers, layer 13: Class, Down; and the law's shown. -/
import Derived.Test.YtlddkoblicnepaaDoorGRefT
import Derived.Test.YtlddkoblicnepaaDoorGBits
import Derived.Test.YtlddkoblicnepaaDoorGClass
set_option linter.unusedVariables false
set_option linter.unusedSimpArgs false
namespace Go.Proofs.YtlddkoblicnepaaDoor
open Go.RowKit Go.Extern.Stop Go.Stop Go.Extern

set_option maxRecDepth 100000 in
set_option maxHeartbeats 2000000 in
theorem rClass_any (X : BitVec 64) (w : World) :
    Calls Tryd.prog 15 #[.int .i64 (tI X)] w fun e w' => e = .returned (.tuple #[.int .i64 (bif rightSixB X then prioI X else 0), .bool (bif rightSixB X then !(X &&& 8#64 == 0#64) else false), .int .i64 (bif rightSixB X then 0 else 2)]) ∧ w = w' := by
  have HS := Lib.hid (six_any X)
  cases hp : rightSixB X with
  | false =>
    rw [hp] at HS
    simp only [cond_false]
    clear hp
    generalize tI X = x at *
    go_enter Tryd.func15, Tryd.ntmps15
    go_wp2_with fail
    refine (HS.out _).mono ?_
    rintro e w' ⟨rfl, rfl⟩
    go_wp2
    refine bodyPost_ret (results_tmp3 rfl _ _ _) rfl ⟨rfl, rfl⟩
  | true =>
    rw [hp] at HS
    simp only [cond_true]
    have ho : onlyB X 508351#64 = true := by
      unfold rightSixB at hp
      rw [Bool.and_eq_true] at hp
      exact hp.1
    have hle := only_le ho
    have hx : tI X = (X.toNat : Int) := tI_nat (by have : (508351#64).toNat = 508351 := by decide
                                                   omega)
    have hpr := prio_nat ho
    have b8 := band X 8#64
    rw [show tI 8#64 = 8 by decide] at b8
    have z8 : (tI (X &&& 8#64) != 0) = !(X &&& 8#64 == 0#64) := by rw [bne, beq0]
    have hq : (wrap64 ((X.toNat : Int) / 128)).tmod 4 = ((X.toNat / 128 % 4 : Nat) : Int) := by
      have h5 : (508351#64).toNat = 508351 := by decide
      have e : wrap64 ((X.toNat : Int) / 128) = ((X.toNat / 128 : Nat) : Int) := by unfold wrap64; omega
      rw [e, Int.tmod_eq_emod_of_nonneg (by omega)]
      omega
    clear hp ho hle
    rw [hx] at HS b8 ⊢
    rw [← hpr]
    clear hpr hx
    generalize tI (X &&& 8#64) = y8 at *
    generalize (X &&& 8#64 == 0#64) = p at *
    generalize X.toNat = n at *
    go_enter Tryd.func15, Tryd.ntmps15
    go_wp2_with fail
    refine (HS.out _).mono ?_
    rintro e w' ⟨rfl, rfl⟩
    go_wp2
    refine bodyPost_ret (results_tmp3 rfl _ _ _) rfl ⟨?_, rfl⟩
    show Ending.returned (.tuple #[.int .i64 ((n : Int) / 128 % 4), .bool !p, .int .i64 0]) = _
    rw [show ((n : Int) / 128 % 4) = ((n / 128 % 4 : Nat) : Int) by omega]

set_option maxRecDepth 100000 in
set_option maxHeartbeats 2000000 in
theorem rDown_of (x n y y64 y4 m r1 r2 r3 : Int) (p1 p3 p4 c : Bool) (hs : ∀ w, Calls Tryd.prog 29 #[.int .i64 x, .int .i64 475239] w fun e w' => e = .returned (.bool p1) ∧ w = w')
    (b64 : bits .and .i64 x 64 = y64) (b4 : bits .and .i64 x 475136 = y4) (b3 : bits .and .i64 x 475175 = y) (z64 : (y64 != 0) = !p3) (z4 : (y4 != 0) = !p4) (hm : IntKind.i64.wrap (n * 128) = m) (h1 : IntKind.i64.wrap (y + 16) = r1) (h2 : withinB n 0 2 = true → IntKind.i64.wrap (r1 + m) = r2) (h3 : withinB n 0 2 = true → IntKind.i64.wrap (r2 + 8) = r3) (w : World) :
    Calls Tryd.prog 13 #[.int .i64 x, .int .i64 n, .bool c] w fun e w' => e = .returned (.tuple #[.int .i64 (bif p1 && withinB n 0 2 && ((!p3) == (!p4)) then (bif c then r3 else r2) else 0), .int .i64 (bif p1 && withinB n 0 2 then (bif (!p3) == (!p4) then 0 else 133) else 2)]) ∧ w = w' := by
  have HS := Lib.hid hs
  clear hs
  cases p1 with
  | false =>
    clear h1 h2 h3 b64 b4 b3 z64 z4
    simp only [Bool.false_and, cond_false]
    go_enter Tryd.func13, Tryd.ntmps13
    go_wp2_with fail
    refine (HS.out _).mono ?_
    rintro e w' ⟨rfl, rfl⟩
    go_wp2
    go_ret2
    exact ⟨rfl, rfl⟩
  | true =>
    by_cases h0 : 0 ≤ n
    · by_cases hn2 : n ≤ 2
      · have hw : withinB n 0 2 = true := by unfold withinB; simp [h0, hn2]
        have h2 := h2 hw
        have h3 := h3 hw
        rw [hw]
        have g0 : decide (n < 0) = false := by simp; omega
        have g2 : decide (n > 2) = false := by simp; omega
        clear h0 hn2 hw
        simp only [Bool.true_and]
        cases p3 <;> cases p4 <;> cases c <;> simp only [Bool.not_true, Bool.not_false, cond_true, cond_false, beq_self_eq_true, show (true == false) = false from rfl, show (false == true) = false from rfl] at z64 z4 ⊢
        all_goals
          go_enter Tryd.func13, Tryd.ntmps13
          go_wp2_with fail
          refine (HS.out _).mono ?_
          rintro e w' ⟨rfl, rfl⟩
          go_wp2
          go_ret2
          exact ⟨rfl, rfl⟩
      · have hw : withinB n 0 2 = false := by unfold withinB; simp; omega
        rw [hw]
        have g0 : decide (n < 0) = false := by simp; omega
        have g2 : decide (n > 2) = true := by simp; omega
        clear h0 hn2 hw h1 h2 h3 b64 b4 b3 z64 z4
        simp only [Bool.true_and, Bool.false_and, cond_false]
        go_enter Tryd.func13, Tryd.ntmps13
        go_wp2_with fail
        refine (HS.out _).mono ?_
        rintro e w' ⟨rfl, rfl⟩
        go_wp2
        go_ret2
        exact ⟨rfl, rfl⟩
    · have hw : withinB n 0 2 = false := by unfold withinB; simp; omega
      rw [hw]
      have g0 : decide (n < 0) = true := by simp; omega
      clear h0 hw h1 h2 h3 b64 b4 b3 z64 z4
      simp only [Bool.true_and, Bool.false_and, cond_false]
      go_enter Tryd.func13, Tryd.ntmps13
      go_wp2_with fail
      refine (HS.out _).mono ?_
      rintro e w' ⟨rfl, rfl⟩
      go_wp2
      go_ret2
      exact ⟨rfl, rfl⟩

theorem rDown_any (X : BitVec 64) (n : Int) (c : Bool) (w : World) :
    Calls Tryd.prog 13 #[.int .i64 (tI X), .int .i64 n, .bool c] w fun e w' => e = .returned (.tuple #[.int .i64 (ansG (downO X n) (tI (downF X n c))), .int .i64 (errG (downO X n))]) ∧ w = w' := by
  have hs := among_any X 475239#64 (by decide)
  rw [show tI 475239#64 = 475239 by decide] at hs
  have b1 := band X 64#64
  have b2 := band X 475136#64
  have b3 := band X 475175#64
  rw [show tI 475175#64 = 475175 by decide] at b3
  rw [show tI 475136#64 = 475136 by decide] at b2
  rw [show tI 64#64 = 64 by decide] at b1
  have z1 : (tI (X &&& 64#64) != 0) = !(X &&& 64#64 == 0#64) := by rw [bne, beq0]
  have z2 : (tI (X &&& 475136#64) != 0) = !(X &&& 475136#64 == 0#64) := by rw [bne, beq0]
  have a1 := add_or (mask_off X (M := 475175#64) (N := 16#64) (by decide))
  rw [show tI 16#64 = 16 by decide] at a1
  have a2 : withinB n 0 2 = true → IntKind.i64.wrap (tI ((X &&& 475175#64) ||| 16#64) + tI (mulF n)) = tI (((X &&& 475175#64) ||| 16#64) ||| mulF n) := fun h => add_or (by
    rcases mul_cases h with ⟨_, e⟩ | ⟨_, e⟩ | ⟨_, e⟩ <;> rw [e, BitVec.and_or_distrib_right, BitVec.and_assoc] <;> simp)
  have a3 : withinB n 0 2 = true → IntKind.i64.wrap (tI (((X &&& 475175#64) ||| 16#64) ||| mulF n) + 8) = tI ((((X &&& 475175#64) ||| 16#64) ||| mulF n) ||| 8#64) := fun h => by
    have := add_or (A := ((X &&& 475175#64) ||| 16#64) ||| mulF n) (B := 8#64) (by
      rcases mul_cases h with ⟨_, e⟩ | ⟨_, e⟩ | ⟨_, e⟩ <;> rw [e, BitVec.and_or_distrib_right, BitVec.and_or_distrib_right, BitVec.and_assoc] <;> simp)
    rwa [show tI 8#64 = 8 by decide] at this
  refine (rDown_of (tI X) n _ _ _ _ _ _ _ _ _ _ c hs b1 b2 b3 z1 z2 (mulF_wrap n) a1 a2 a3 w).mono fun e w' ⟨he, hw⟩ => ⟨?_, hw⟩
  rw [he]
  unfold downO
  generalize onlyB X 475239#64 = p1
  generalize withinB n 0 2 = p2
  generalize ((!(X &&& 64#64 == 0#64)) == (!(X &&& 475136#64 == 0#64))) = p3
  cases p1 <;> cases p2 <;> cases p3 <;> cases c <;> rfl

set_option maxRecDepth 100000 in
set_option maxHeartbeats 2000000 in
/-- The law's examples. -/
theorem gshown_any (b : Nat → Addr) (w : World) (hE : EnvG b w) :
    Calls Tryd.prog 9 #[] w fun e w' => e = .returned (.bool true) ∧ Below w.heap.size w w' := by
  have h1 : ∀ w, EnvG b w → Calls Tryd.prog 10 #[.int .i64 16400] w fun e w' => e = .returned (.tuple #[.int .i64 16448, .int .i64 0]) ∧ Below w.heap.size w w' := fun w h => by
    have := Up_any b 16400#64 w h
    rwa [show tI 16400#64 = 16400 by decide, show ansG (upO 16400#64) (tI (upF 16400#64)) = 16448 by decide, show errG (upO 16400#64) = 0 by decide] at this
  have h2 : ∀ w, EnvG b w → Calls Tryd.prog 10 #[.int .i64 16384] w fun e w' => e = .returned (.tuple #[.int .i64 0, .int .i64 132]) ∧ Below w.heap.size w w' := fun w h => by
    have := Up_any b 16384#64 w h
    rwa [show tI 16384#64 = 16384 by decide, show ansG (upO 16384#64) (tI (upF 16384#64)) = 0 by decide, show errG (upO 16384#64) = 132 by decide] at this
  have h3 : ∀ w, EnvG b w → Calls Tryd.prog 12 #[.int .i64 4, .int .i64 2, .bool true] w fun e w' => e = .returned (.tuple #[.int .i64 284, .int .i64 0]) ∧ Below w.heap.size w w' := fun w h => by
    have := Down_any b 4#64 2 true w h
    rwa [show tI 4#64 = 4 by decide, show ansG (downO 4#64 2) (tI (downF 4#64 2 true)) = 284 by decide, show errG (downO 4#64 2) = 0 by decide] at this
  have h4 : ∀ w, EnvG b w → Calls Tryd.prog 12 #[.int .i64 64, .int .i64 0, .bool false] w fun e w' => e = .returned (.tuple #[.int .i64 0, .int .i64 133]) ∧ Below w.heap.size w w' := fun w h => by
    have := Down_any b 64#64 0 false w h
    rwa [show tI 64#64 = 64 by decide, show ansG (downO 64#64 0) (tI (downF 64#64 0 false)) = 0 by decide, show errG (downO 64#64 0) = 133 by decide] at this
  have h5 : ∀ w, EnvG b w → Calls Tryd.prog 22 #[.int .i64 1500] w fun e w' => e = .returned (.tuple #[.int .i64 0, .int .i64 136]) ∧ Below w.heap.size w w' := fun w h => by
    have := Seconds_any b 1500 w h 1 500 (by decide) (by decide) (by decide)
    rwa [show ansG (secondsO 1500) 1 = 0 by decide, show errG (secondsO 1500) = 136 by decide] at this
  have H1 := Lib.hid h1
  have H2 := Lib.hid h2
  have H3 := Lib.hid h3
  have H4 := Lib.hid h4
  have H5 := Lib.hid h5
  clear h1 h2 h3 h4 h5
  go_enter Tryd.func9, Tryd.ntmps9
  go_wp2_with fail
  refine (H1.out _ hE).mono ?_
  rintro e w1 ⟨rfl, hb1⟩
  go_wp2_with fail
  refine (H2.out _ (hE.below hb1)).mono ?_
  rintro e w2 ⟨rfl, hb2⟩
  replace hb2 := hb1.trans (hb2.mono hb1.size)
  go_wp2_with fail
  refine (H3.out _ (hE.below hb2)).mono ?_
  rintro e w3 ⟨rfl, hb3⟩
  replace hb3 := hb2.trans (hb3.mono hb2.size)
  go_wp2_with fail
  refine (H4.out _ (hE.below hb3)).mono ?_
  rintro e w4 ⟨rfl, hb4⟩
  replace hb4 := hb3.trans (hb4.mono hb3.size)
  go_wp2_with fail
  refine (H5.out _ (hE.below hb4)).mono ?_
  rintro e w5 ⟨rfl, hb5⟩
  replace hb5 := hb4.trans (hb5.mono hb4.size)
  go_wp2
  go_ret
  exact ⟨rfl, hb5⟩
end Go.Proofs.YtlddkoblicnepaaDoor
