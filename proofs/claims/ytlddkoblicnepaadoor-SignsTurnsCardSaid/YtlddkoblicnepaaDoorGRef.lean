/- The document's answers, layer 13: Among, six, MarkUp, MarkDown, Up. -/
import Derived.Test.YtlddkoblicnepaaDoorGTop
set_option linter.unusedVariables false
set_option linter.unusedSimpArgs false
namespace Go.Proofs.YtlddkoblicnepaaDoor
open Go.RowKit Go.Extern.Stop Go.Stop Go.Extern

theorem only_keep {X M : BitVec 64} (h : onlyB X M = true) : X &&& M = X := by
  have h := eq_of_beq h
  apply BitVec.eq_of_getLsbD_eq
  intro j hj
  have e := (eq_zero_iff _).1 h j
  rw [BitVec.getLsbD_and, BitVec.getLsbD_not] at e
  rw [BitVec.getLsbD_and]
  cases hx : X.getLsbD j <;> cases hm : M.getLsbD j <;> simp_all
theorem only_le {X M : BitVec 64} (h : onlyB X M = true) : X.toNat ≤ M.toNat := by
  have e := congrArg BitVec.toNat (only_keep h)
  rw [BitVec.toNat_and] at e
  rw [← e]
  exact Nat.and_le_right
theorem tI_nat {X : BitVec 64} (h : X.toNat < 9223372036854775808) : tI X = (X.toNat : Int) := by
  show X.toInt = _
  rw [BitVec.toInt_eq_toNat_of_lt (by omega)]
theorem only_pos {X M : BitVec 64} (h : onlyB X M = true) (hM : M.toNat < 9223372036854775808) : 0 ≤ tI X := by
  have := only_le h
  rw [tI_nat (by omega)]
  omega

set_option maxHeartbeats 400000 in
theorem among_any (X M : BitVec 64) (hM : M.toNat < 9223372036854775808) (w : World) :
    Calls Tryd.prog 29 #[.int .i64 (tI X), .int .i64 (tI M)] w fun e w' => e = .returned (.bool (onlyB X M)) ∧ w = w' := by
  have hn := bandNot X M
  have hz : (tI (X &&& ~~~M) == 0) = onlyB X M := beq0 _
  generalize hY : tI (X &&& ~~~M) = y at *
  have hpos : onlyB X M = true → 0 ≤ tI X := fun h => only_pos h hM
  generalize onlyB X M = p at *
  by_cases h0 : 0 ≤ tI X
  · have g0 : decide (tI X ≥ 0) = true := by simpa using h0
    clear hY hpos
    generalize tI X = x at *
    generalize tI M = m at *
    go_enter Tryd.func29, Tryd.ntmps29
    go_wp2
    go_ret
    exact ⟨rfl, rfl⟩
  · have g0 : decide (tI X ≥ 0) = false := by simpa using h0
    have hp : p = false := by
      cases p with
      | false => rfl
      | true => exact absurd (hpos rfl) h0
    subst hp
    clear hY hpos
    generalize tI X = x at *
    generalize tI M = m at *
    go_enter Tryd.func29, Tryd.ntmps29
    go_wp2
    go_ret
    exact ⟨rfl, rfl⟩

theorem prio_nat {X : BitVec 64} (h : onlyB X 508351#64 = true) : ((X.toNat / 128 % 4 : Nat) : Int) = prioI X := by
  have b7 : X.getLsbD 7 = decide (X.toNat / 128 % 2 = 1) := by
    rw [BitVec.getLsbD, Nat.testBit_eq_decide_div_mod_eq]
  have b8 : X.getLsbD 8 = decide (X.toNat / 256 % 2 = 1) := by
    rw [BitVec.getLsbD, Nat.testBit_eq_decide_div_mod_eq]
  have k : ∀ Y, X &&& 384#64 = Y → X.getLsbD 7 = Y.getLsbD 7 ∧ X.getLsbD 8 = Y.getLsbD 8 := fun Y e => by
    rw [← e, BitVec.getLsbD_and, BitVec.getLsbD_and]
    constructor
    · rw [show (384#64).getLsbD 7 = true by decide, Bool.and_true]
    · rw [show (384#64).getLsbD 8 = true by decide, Bool.and_true]
  rcases prio_cases X with ⟨e, e'⟩ | ⟨e, e'⟩ | ⟨e, e'⟩ | ⟨e, e'⟩
  all_goals
    obtain ⟨k7, k8⟩ := k _ e
    rw [e']
    rw [b7] at k7
    rw [b8] at k8
    simp at k7 k8
    omega

set_option maxHeartbeats 400000 in
theorem six_any (X : BitVec 64) (w : World) :
    Calls Tryd.prog 27 #[.int .i64 (tI X)] w fun e w' => e = .returned (.bool (rightSixB X)) ∧ w = w' := by
  unfold rightSixB
  have ha := among_any X 508351#64 (by decide)
  rw [show tI 508351#64 = 508351 by decide] at ha
  cases hp : onlyB X 508351#64 with
  | false =>
    rw [hp] at ha
    have HA := Lib.hid ha
    clear ha hp
    generalize tI X = x at *
    go_enter Tryd.func27, Tryd.ntmps27
    go_wp2_with fail
    refine (HA.out _).mono ?_
    rintro e w' ⟨rfl, rfl⟩
    go_wp2
    go_ret
    exact ⟨rfl, rfl⟩
  | true =>
    rw [hp] at ha
    have HA := Lib.hid ha
    have hle := only_le hp
    have hx : tI X = (X.toNat : Int) := tI_nat (by have : (508351#64).toNat = 508351 := by decide
                                                   omega)
    have hpr := prio_nat hp
    clear ha hp
    rw [hx] at HA ⊢
    rw [← hpr]
    generalize X.toNat = n at *
    generalize prioI X = pr at *
    have h3 : decide (((n / 128 % 4 : Nat) : Int) < 3) = decide (((n / 128 % 4 : Nat) : Int) ≤ 2) := by
      congr 1
      exact propext ⟨fun h => by omega, fun h => by omega⟩
    go_enter Tryd.func27, Tryd.ntmps27
    go_wp2_with fail
    refine (HA.out _).mono ?_
    rintro e w' ⟨rfl, rfl⟩
    go_wp2
    trace_state
    go_ret
    exact ⟨by rw [← h3]; rfl, rfl⟩
end Go.Proofs.YtlddkoblicnepaaDoor
