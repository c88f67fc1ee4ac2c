/- The document's answers, layer 13: Millis, Seconds. -/
import Derived.Test.YtlddkoblicnepaaDoorGRefU
set_option linter.unusedVariables false
set_option linter.unusedSimpArgs false
namespace Go.Proofs.YtlddkoblicnepaaDoor
open Go.RowKit Go.Extern.Stop Go.Stop Go.Extern

set_option maxHeartbeats 400000 in
theorem refRight_any (n : Int) (w : World) :
    Calls Tryd.prog 37 #[.int .i64 n] w fun e w' => e = .returned (.bool (rightB n)) ∧ w = w' := by
  unfold rightB
  by_cases h0 : 0 ≤ n
  · by_cases h1 : n ≤ 281474976710655
    · go_enter Tryd.func37, Tryd.ntmps37
      go_wp2
      go_ret
      exact ⟨by simp [h0, h1], rfl⟩
    · have h1' : decide (n ≤ 281474976710655) = false := by simpa using h1
      go_enter Tryd.func37, Tryd.ntmps37
      go_wp2
      go_ret
      exact ⟨by simp [h0, h1], rfl⟩
  · have h0' : decide (0 ≤ n) = false := by simpa using h0
    go_enter Tryd.func37, Tryd.ntmps37
    go_wp2
    go_ret
    exact ⟨by simp [h0], rfl⟩


set_option maxRecDepth 100000 in
set_option maxHeartbeats 800000 in
theorem rMillis_any (n : Int) (w : World) :
    Calls Tryd.prog 21 #[.int .i64 n] w fun e w' => e = .returned (.tuple #[.int .i64 (ansG (millisO n) (IntKind.i64.wrap (n * 1000))), .int .i64 (errG (millisO n))]) ∧ w = w' := by
  have hc : IntKind.i64.wrap (1000 * n) = IntKind.i64.wrap (n * 1000) := by rw [Int.mul_comm]
  generalize IntKind.i64.wrap (n * 1000) = m at *
  unfold millisO withinB
  by_cases h0 : 0 ≤ n
  · have g0 : decide (0 ≤ n) = true := by simpa using h0
    have g0' : decide (n < 0) = false := by simp; omega
    by_cases h1 : n ≤ 281474976710
    · have g1 : decide (n ≤ 281474976710) = true := by simpa using h1
      have g1' : decide (n > 281474976710) = false := by simp; omega
      rw [g0, g1]
      clear g0 g1
      go_enter Tryd.func21, Tryd.ntmps21
      go_wp2
      go_ret2
      exact ⟨rfl, rfl⟩
    · have g1 : decide (n ≤ 281474976710) = false := by simpa using h1
      have g1' : decide (n > 281474976710) = true := by simp; omega
      rw [g0, g1]
      clear g0 g1
      go_enter Tryd.func21, Tryd.ntmps21
      go_wp2
      go_ret2
      exact ⟨rfl, rfl⟩
  · have g0 : decide (0 ≤ n) = false := by simpa using h0
    have g0' : decide (n < 0) = true := by simp; omega
    rw [g0]
    clear g0
    go_enter Tryd.func21, Tryd.ntmps21
    go_wp2
    go_ret2
    exact ⟨rfl, rfl⟩

set_option maxRecDepth 100000 in
set_option maxHeartbeats 800000 in
theorem rSeconds_any (n : Int) (w : World) :
    Calls Tryd.prog 23 #[.int .i64 n] w fun e w' => e = .returned (.tuple #[.int .i64 (ansG (secondsO n) (n.tdiv 1000)), .int .i64 (errG (secondsO n))]) ∧ w = w' := by
  have HR := Lib.hid (refRight_any n)
  unfold secondsO
  cases hp : rightB n with
  | false =>
    rw [hp] at HR
    generalize (n.tmod 1000 == 0) = p2
    generalize n.tdiv 1000 = q
    clear hp
    go_enter Tryd.func23, Tryd.ntmps23
    go_wp2_with fail
    refine (HR.out _).mono ?_
    rintro e w' ⟨rfl, rfl⟩
    go_wp2
    go_ret2
    exact ⟨rfl, rfl⟩
  | true =>
    rw [hp] at HR
    have h0 : 0 ≤ n := by unfold rightB at hp; simp at hp; exact hp.1
    have h1 : n ≤ 281474976710655 := by unfold rightB at hp; simp at hp; exact hp.2
    clear hp
    obtain ⟨k, rfl⟩ := Int.eq_ofNat_of_zero_le h0
    clear h0
    have e1 : (k : Int).tmod 1000 = (k : Int) % 1000 := Int.tmod_eq_emod_of_nonneg (by omega)
    have e2 : (k : Int).tdiv 1000 = (k : Int) / 1000 := Int.tdiv_eq_ediv_of_nonneg (by omega)
    rw [e1, e2]
    clear e1 e2
    have hw64 : wrap64 ((k : Int) / 1000) = (k : Int) / 1000 := by unfold wrap64; omega
    clear h1
    by_cases hm : (k : Int) % 1000 = 0
    · have hb : ((k : Int) % 1000 == 0) = true := by simpa using hm
      have hb2 : ((k : Int) % 1000 != 0) = false := by simpa using hm
      rw [hb]
      clear hb hm
      go_enter Tryd.func23, Tryd.ntmps23
      go_wp2_with fail
      refine (HR.out _).mono ?_
      rintro e w' ⟨rfl, rfl⟩
      go_wp2
      go_ret2
      refine ⟨?_, rfl⟩
      simp only [hw64]
      rfl
    · have hb : ((k : Int) % 1000 == 0) = false := by simpa using hm
      have hb2 : ((k : Int) % 1000 != 0) = true := by simpa using hm
      rw [hb]
      clear hb hm
      go_enter Tryd.func23, Tryd.ntmps23
      go_wp2_with fail
      refine (HR.out _).mono ?_
      rintro e w' ⟨rfl, rfl⟩
      go_wp2
      go_ret2
      exact ⟨rfl, rfl⟩
end Go.Proofs.YtlddkoblicnepaaDoor
