/- The document's answers, layer 13: Up, MarkUp, MarkDown, Millis, Seconds. -/
import Derived.Test.YtlddkoblicnepaaDoorGRef
import Derived.Test.YtlddkoblicnepaaDoorGTimes
set_option linter.unusedVariables false
set_option linter.unusedSimpArgs false
namespace Go.Proofs.YtlddkoblicnepaaDoor
open Go.RowKit Go.Extern.Stop Go.Stop Go.Extern

theorem add_or {A B : BitVec 64} (h : A &&& B = 0#64) : IntKind.i64.wrap (tI A + tI B) = tI (A ||| B) := by
  rw [badd, BitVec.add_eq_or_of_and_eq_zero _ _ h]
theorem mask_off (X : BitVec 64) {M N : BitVec 64} (h : M &&& N = 0#64) : (X &&& M) &&& N = 0#64 := by
  rw [BitVec.and_assoc, h]; simp
theorem upF_b (X : BitVec 64) : upF X = bif (X &&& 475136#64 == 0#64) then X &&& 475175#64 else (X &&& 475175#64) ||| 64#64 := by
  unfold upF
  by_cases h : X &&& 475136#64 = 0#64
  · rw [if_pos h, beq_iff_eq.2 h]; rfl
  · rw [if_neg h, beq_eq_false_iff_ne.2 h]; rfl

set_option maxRecDepth 100000 in
set_option maxHeartbeats 2000000 in
theorem rUp_any (X : BitVec 64) (w : World) :
    Calls Tryd.prog 11 #[.int .i64 (tI X)] w fun e w' => e = .returned (.tuple #[.int .i64 (ansG (upO X) (tI (upF X))), .int .i64 (errG (upO X))]) ∧ w = w' := by
  have HS := Lib.hid (six_any X)
  have b1 := band X 32768#64
  have b2 := band X 16#64
  have b3 := band X 475175#64
  have b4 := band X 475136#64
  rw [show tI 32768#64 = 32768 by decide] at b1
  rw [show tI 16#64 = 16 by decide] at b2
  rw [show tI 475175#64 = 475175 by decide] at b3
  rw [show tI 475136#64 = 475136 by decide] at b4
  have z1 : (tI (X &&& 32768#64) != 0) = !(X &&& 32768#64 == 0#64) := by rw [bne, beq0]
  have z2 : (tI (X &&& 16#64) == 0) = (X &&& 16#64 == 0#64) := beq0 _
  have z4 : (tI (X &&& 475136#64) != 0) = !(X &&& 475136#64 == 0#64) := by rw [bne, beq0]
  have ha := add_or (mask_off X (M := 475175#64) (N := 64#64) (by decide))
  rw [show tI 64#64 = 64 by decide] at ha
  have HF := Lib.hid (congrArg tI (upF_b X))
  unfold upO
  generalize rightSixB X = p1 at *
  generalize (X &&& 32768#64 == 0#64) = p2 at *
  generalize (X &&& 16#64 == 0#64) = p3 at *
  generalize (X &&& 475136#64 == 0#64) = p4 at *
  generalize tI (X &&& 32768#64) = y1 at *
  generalize tI (X &&& 16#64) = y2 at *
  generalize tI (X &&& 475136#64) = y4 at *
  generalize X &&& 475175#64 = Y at *
  generalize Y ||| 64#64 = Y1 at *
  generalize tI (upF X) = r at *
  generalize tI X = x at *
  rw [Bool.apply_cond tI] at HF
  generalize tI Y = y3 at *
  generalize tI Y1 = y5 at *
  cases p1 <;> cases p2 <;> cases p3 <;> cases p4 <;> simp only [Bool.not_true, Bool.not_false, cond_true, cond_false] at z1 z2 z4 HF ⊢
  all_goals
    rw [HF.out]
    clear HF
    go_enter Tryd.func11, Tryd.ntmps11
    go_wp2_with fail
    refine (HS.out _).mono ?_
    rintro e w' ⟨rfl, rfl⟩
    go_wp2
    go_ret2
    exact ⟨rfl, rfl⟩

set_option maxRecDepth 100000 in
set_option maxHeartbeats 2000000 in
theorem rMarkUp_any (X : BitVec 64) (w : World) :
    Calls Tryd.prog 17 #[.int .i64 (tI X)] w fun e w' => e = .returned (.tuple #[.int .i64 (ansG (markUpO X) (tI (X &&& 23#64))), .int .i64 (errG (markUpO X))]) ∧ w = w' := by
  have hs := among_any X 127#64 (by decide)
  rw [show tI 127#64 = 127 by decide] at hs
  have HS := Lib.hid hs
  clear hs
  have b1 := band X 32#64
  have b2 := band X 64#64
  have b3 := band X 23#64
  rw [show tI 32#64 = 32 by decide] at b1
  rw [show tI 64#64 = 64 by decide] at b2
  rw [show tI 23#64 = 23 by decide] at b3
  have z1 : (tI (X &&& 32#64) != 0) = !(X &&& 32#64 == 0#64) := by rw [bne, beq0]
  have z2 : (tI (X &&& 64#64) != 0) = !(X &&& 64#64 == 0#64) := by rw [bne, beq0]
  unfold markUpO
  generalize onlyB X 127#64 = p1 at *
  generalize (X &&& 32#64 == 0#64) = p2 at *
  generalize (X &&& 64#64 == 0#64) = p3 at *
  generalize tI (X &&& 32#64) = y1 at *
  generalize tI (X &&& 64#64) = y2 at *
  generalize tI (X &&& 23#64) = y3 at *
  generalize tI X = x at *
  cases p1 <;> cases p2 <;> cases p3 <;> simp only [Bool.not_true, Bool.not_false] at z1 z2
  all_goals
    go_enter Tryd.func17, Tryd.ntmps17
    go_wp2_with fail
    refine (HS.out _).mono ?_
    rintro e w' ⟨rfl, rfl⟩
    go_wp2
    go_ret2
    exact ⟨rfl, rfl⟩

theorem markDownF_b (X : BitVec 64) (last : Bool) (h : onlyB X 23#64 = true) : IntKind.i64.wrap (tI X + 8) = tI (markDownF X true) ∧ tI X = tI (markDownF X false) := by
  have e : X &&& 23#64 = X := only_keep h
  constructor
  · have h8 : X &&& 8#64 = 0#64 := by rw [← e]; exact mask_off X (by decide)
    have := add_or h8
    rw [show tI 8#64 = 8 by decide] at this
    rw [this]
    show _ = tI ((X &&& 23#64) ||| 8#64)
    rw [e]
  · show _ = tI (X &&& 23#64)
    rw [e]

set_option maxRecDepth 100000 in
set_option maxHeartbeats 800000 in
theorem rMarkDown_of (x r1 : Int) (p last : Bool) (hs : ∀ w, Calls Tryd.prog 29 #[.int .i64 x, .int .i64 23] w fun e w' => e = .returned (.bool p) ∧ w = w') (h : p = true → IntKind.i64.wrap (x + 8) = r1) (w : World) :
    Calls Tryd.prog 19 #[.int .i64 x, .bool last] w fun e w' => e = .returned (.tuple #[.int .i64 (bif p then (bif last then r1 else x) else 0), .int .i64 (bif p then 0 else 2)]) ∧ w = w' := by
  have HS := Lib.hid hs
  clear hs
  cases p <;> cases last <;> simp only [cond_true, cond_false]
  · clear h
    go_enter Tryd.func19, Tryd.ntmps19
    go_wp2_with fail
    refine (HS.out _).mono ?_
    rintro e w' ⟨rfl, rfl⟩
    go_wp2
    go_ret2
    exact ⟨rfl, rfl⟩
  · clear h
    go_enter Tryd.func19, Tryd.ntmps19
    go_wp2_with fail
    refine (HS.out _).mono ?_
    rintro e w' ⟨rfl, rfl⟩
    go_wp2
    go_ret2
    exact ⟨rfl, rfl⟩
  · clear h
    go_enter Tryd.func19, Tryd.ntmps19
    go_wp2_with fail
    refine (HS.out _).mono ?_
    rintro e w' ⟨rfl, rfl⟩
    go_wp2
    go_ret2
    exact ⟨rfl, rfl⟩
  · have h1 := h rfl
    clear h
    go_enter Tryd.func19, Tryd.ntmps19
    go_wp2_with fail
    refine (HS.out _).mono ?_
    rintro e w' ⟨rfl, rfl⟩
    go_wp2
    go_ret2
    exact ⟨rfl, rfl⟩
theorem rMarkDown_any (X : BitVec 64) (last : Bool) (w : World) :
    Calls Tryd.prog 19 #[.int .i64 (tI X), .bool last] w fun e w' => e = .returned (.tuple #[.int .i64 (ansG (markDownO X) (tI (markDownF X last))), .int .i64 (errG (markDownO X))]) ∧ w = w' := by
  have hs := among_any X 23#64 (by decide)
  rw [show tI 23#64 = 23 by decide] at hs
  have h := rMarkDown_of (tI X) (tI (markDownF X true)) (onlyB X 23#64) last hs (fun e => (markDownF_b X last e).1) w
  refine h.mono fun e w' ⟨he, hw⟩ => ⟨?_, hw⟩
  rw [he]
  unfold markDownO
  cases hp : onlyB X 23#64 with
  | false => rfl
  | true =>
    cases last with
    | true => rfl
    | false => rw [← (markDownF_b X false hp).2]; rfl
end Go.Proofs.YtlddkoblicnepaaDoor
