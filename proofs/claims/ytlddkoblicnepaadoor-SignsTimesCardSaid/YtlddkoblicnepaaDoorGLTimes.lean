/- SignsTimes: thousandths are seconds just if they are a multiple of a thousand; seconds up to a most have thousandths. -/
import Derived.Test.YtlddkoblicnepaaDoorGLTurns
import Derived.OpenShut
set_option linter.unusedVariables false
set_option linter.unusedSimpArgs false
namespace Go.Proofs.YtlddkoblicnepaaDoor
open Go.RowKit Go.Extern.Stop Go.Stop Go.Extern

set_option maxRecDepth 100000 in
set_option maxHeartbeats 8000000 in
theorem times_of (b : Nat → Addr) (n a e1 q f1 v : Int) (p0 p1 pr pm : Bool)
    (hM : ∀ w, EnvG b w → Calls Tryd.prog 20 #[.int .i64 n] w fun e w' => e = .returned (.tuple #[.int .i64 a, .int .i64 e1]) ∧ Below w.heap.size w w')
    (hS : ∀ w, EnvG b w → Calls Tryd.prog 22 #[.int .i64 n] w fun e w' => e = .returned (.tuple #[.int .i64 q, .int .i64 f1]) ∧ Below w.heap.size w w')
    (hR : ∀ w, Calls Tryd.prog 24 #[.int .i64 n] w fun e w' => e = .returned (.bool pr) ∧ w = w')
    (h0 : decide (n ≥ 0) = p0) (h1 : decide (n ≤ 281474976710) = p1) (hm : (n.tmod 1000 == 0) = pm) (hv : IntKind.i64.wrap (1000 * n) = v)
    (c1 : p0 = true → p1 = true → e1 = 0 ∧ a = v) (c2 : ¬ (p0 = true ∧ p1 = true) → e1 ≠ 0 ∧ a = 0) (c3 : pr = true → pm = true → f1 = 0 ∧ IntKind.i64.wrap (1000 * q) = n) (c4 : ¬ (pr = true ∧ pm = true) → f1 ≠ 0 ∧ q = 0) (w : World) (hE : EnvG b w) :
    Calls Tryd.prog 8 #[.int .i64 n] w fun e w' => e = .returned (.bool true) ∧ Below w.heap.size w w' := by
  have HM := Lib.hid hM
  have HS := Lib.hid hS
  have HR := Lib.hid hR
  clear hM hS hR
  cases p0 <;> cases p1 <;> cases pr <;> cases pm
  all_goals
    first
      | (obtain ⟨rfl, rfl⟩ := c1 rfl rfl)
      | (obtain ⟨he, rfl⟩ := c2 (by simp)
         have qe0 : (e1 == 0) = false := by simpa using he
         have qe1 : (e1 != 0) = true := by simpa using he
         clear he)
    first
      | (obtain ⟨rfl, hq⟩ := c3 rfl rfl)
      | (obtain ⟨hf, rfl⟩ := c4 (by simp)
         have qf0 : (f1 == 0) = false := by simpa using hf
         have qf1 : (f1 != 0) = true := by simpa using hf
         clear hf)
    clear c1 c2 c3 c4
    go_enter Tryd.func8, Tryd.ntmps8
    go_wp2_with fail
    refine (gshown_any b _ hE).mono ?_
    rintro e w1 ⟨rfl, hb1⟩
    go_wp2_with fail
    refine (HM.out _ (hE.below hb1)).mono ?_
    rintro e w2 ⟨rfl, hb⟩
    have hb2 := hb1.trans (hb.mono hb1.size)
    clear hb hb1
    go_wp2_with fail
    refine (HS.out _ (hE.below hb2)).mono ?_
    rintro e w3 ⟨rfl, hb⟩
    have hb3 := hb2.trans (hb.mono hb2.size)
    clear hb hb2
    go_wp2_with fail
    refine (HR.out _).mono ?_
    rintro e w' ⟨rfl, rfl⟩
    go_wp2
    go_ret
    exact ⟨rfl, hb3⟩

theorem times_walk (n : Int) (w : World) (hE : ∃ b, EnvG b w) (hn : (Lit.int .i64 n).wf = true) :
    Calls Tryd.prog 8 #[.int .i64 n] w fun e w' => e = .returned (.bool true) ∧ Below w.heap.size w w' := by
  obtain ⟨b, hE⟩ := hE
  refine times_of b n _ _ _ _ _ _ _ _ _ (fun w h => Millis_any b n w h) (fun w h => Seconds_any b n w h _ _ rfl (sec_div hn) rfl) (right_any n) rfl rfl rfl rfl ?_ ?_ ?_ ?_ w hE
  · intro h0 h1
    have hz : millisO n = none := badG1.2 (by
      unfold withinB
      simp at h0 h1 ⊢
      omega)
    rw [hz]
    refine ⟨rfl, ?_⟩
    show IntKind.i64.wrap (n * 1000) = _
    rw [Int.mul_comm]
  · intro h
    have hw : withinB n 0 281474976710 = false := by
      unfold withinB
      cases hb : (decide (0 ≤ n) && decide (n ≤ 281474976710))
      · rfl
      · exfalso
        simp at hb
        exact h ⟨by simp; omega, by simp; omega⟩
    have hz : millisO n = some 0 := by unfold millisO; rw [hw]; rfl
    rw [hz]
    exact ⟨by decide, rfl⟩
  · intro hr hm
    have hz : secondsO n = none := badG2.2 ⟨hr, hm⟩
    rw [hz]
    refine ⟨rfl, ?_⟩
    show IntKind.i64.wrap (1000 * n.tdiv 1000) = n
    unfold rightB at hr
    simp at hr
    rw [Int.tmod_eq_emod_of_nonneg (by omega), beq_iff_eq] at hm
    rw [Int.tdiv_eq_ediv_of_nonneg (by omega), wrap_small (by omega) (by omega)]
    omega
  · intro h
    have hz : secondsO n = some 0 ∨ secondsO n = some 6 := by
      unfold secondsO
      cases hr : rightB n <;> cases hm : (n.tmod 1000 == 0)
      · exact .inl rfl
      · exact .inl rfl
      · exact .inr rfl
      · exact absurd ⟨hr, hm⟩ h
    rcases hz with hz | hz <;> rw [hz] <;> exact ⟨by decide, rfl⟩
end Go.Proofs.YtlddkoblicnepaaDoor
