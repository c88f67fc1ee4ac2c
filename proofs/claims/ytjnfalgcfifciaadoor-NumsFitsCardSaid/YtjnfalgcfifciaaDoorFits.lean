/- A number is one just if eight bytes have room for it, and fewer do if it is below 256 multiplied so many times: the walk of NumsFits. -/
import Derived.Test.YtjnfalgcfifciaaDoorPure
import Derived.Test.YtjnfalgcfifciaaDoorShown
import Derived.LoopTactic
set_option linter.unusedVariables false
set_option linter.unusedSimpArgs false
namespace Go.Proofs.YtjnfalgcfifciaaDoor
open Go.RowKit

theorem bytesR8 (n : Int) : ((bytesR n 8).2 == 0) = rightB n := by
  rw [Bool.eq_iff_iff]
  unfold rightB
  rcases bytesR_cases n 8 with ⟨h, _⟩ | ⟨_, hr, e⟩ | ⟨m, j, rfl, hj, h1, h2, h3, h4, e⟩
  · omega
  · rw [e]
    simp
    intro h0
    refine Int.not_le.1 fun h => hr ⟨h0, h, ?_⟩
    have : n.toNat ≤ 281474976710655 := by omega
    exact Nat.lt_of_le_of_lt this (by decide)
  · rw [e]
    simp
    omega

theorem bytesRk (n : Int) (k : Nat) (h1 : 1 ≤ k) (h6 : k ≤ 6) : ((bytesR n k).2 == 0) = (decide (0 ≤ n) && decide (n < ((256 ^ k : Nat) : Int))) := by
  rw [Bool.eq_iff_iff]
  have hp : 256 ^ k ≤ 256 ^ 6 := Nat.pow_le_pow_right (by omega) h6
  have hp6 : 256 ^ 6 = 281474976710656 := by decide
  rcases bytesR_cases n k with ⟨h, _⟩ | ⟨_, hr, e⟩ | ⟨m, j, rfl, hj, h1, h2, h3, h4, e⟩
  · omega
  · rw [e]
    simp
    intro h0
    refine Int.not_lt.1 fun h => hr ⟨h0, ?_, ?_⟩
    · have : n < ((256 ^ k : Nat) : Int) := by simpa using h
      omega
    · have : n < ((256 ^ k : Nat) : Int) := by simpa using h
      simp
      omega
  · obtain rfl : k = j := by omega
    rw [e]
    simp
    have : (m : Int) < ((256 ^ k : Nat) : Int) := by omega
    simpa using this

set_option maxRecDepth 100000 in
set_option maxHeartbeats 1000000 in
theorem fits_out (a0 a1 a2 : Addr) (n k : Int) (x y : ByteArray) (c d : Int) (w : World) (hE : Env a0 a1 a2 w) (hR : bytesR n 8 = (x, c)) (hS : bytesR n k = (y, d)) (r : Bool) (hr : rightB n = r) (hc : (c == 0) = r) (hk : k < 1 ∨ 6 < k) :
    Calls Tryd.prog 10 #[.int .i64 n, .int .i64 k] w fun e w' => e = .returned (.bool true) ∧ Below w.heap.size w w' := by
  have R := Lib.hid hR
  have S := Lib.hid hS
  clear hR hS
  have hkk : decide (k < 1) = true ∨ decide (k < 1) = false ∧ decide (6 < k) = true := by
    by_cases h : k < 1
    · exact .inl (by simpa using h)
    · exact .inr ⟨by simpa using h, by simp; omega⟩
  clear hk
  rcases hkk with hkk | ⟨hk1, hkk⟩
  all_goals
    cases r
    all_goals
      go_enter Tryd.func10, Tryd.ntmps10
      go_wp2_with fail
      refine (shown_any a0 a1 a2 _ hE).mono ?_
      rintro e w1 ⟨rfl, hb1⟩
      have hE1 := hE.below hb1
      go_wp2_with fail
      refine (bytes_any a0 a1 a2 _ _ _ hE1).mono ?_
      rintro e w2 ⟨rfl, hb2⟩
      have hE2 := hE1.below hb2
      rw [R.out]
      go_wp2_with fail
      refine (bytes_any a0 a1 a2 _ _ _ hE2).mono ?_
      rintro e w3 ⟨rfl, hb3⟩
      rw [S.out]
      go_wp2_with (go_at_call 17; refine (right_any _ _).mono ?_; rintro e w' ⟨rfl, rfl⟩)
      go_ret
      exact ⟨rfl, (hb1.trans (hb2.mono hb1.size)).trans (hb3.mono (Nat.le_trans hb1.size hb2.size))⟩

/-- 256 multiplied i times. -/
def pow256 (i : Nat) : Nat := 256 ^ i
theorem pow256_zero : pow256 0 = 1 := rfl
theorem pow256_succ (i : Nat) : pow256 (i + 1) = 256 * pow256 i := by unfold pow256; rw [Nat.pow_succ, Nat.mul_comm]
theorem pow256_le {i j : Nat} (h : i ≤ j) : pow256 i ≤ pow256 j := Nat.pow_le_pow_right (by omega) h

set_option maxRecDepth 100000 in
set_option maxHeartbeats 1000000 in
theorem fits_in (a0 a1 a2 : Addr) (n : Int) (k : Nat) (x y : ByteArray) (c d : Int) (w : World) (hE : Env a0 a1 a2 w) (hR : bytesR n 8 = (x, c)) (hS : bytesR n k = (y, d)) (r t u : Bool) (hr : rightB n = r) (hc : (c == 0) = r) (hk1 : 1 ≤ k) (hk6 : k ≤ 6)
    (ht : decide (0 ≤ n) = t) (hu : decide (n < ((pow256 k : Nat) : Int)) = u) (hd : (d == 0) = (t && u)) :
    Calls Tryd.prog 10 #[.int .i64 n, .int .i64 (k : Int)] w fun e w' => e = .returned (.bool true) ∧ Below w.heap.size w w' := by
  have R := Lib.hid hR
  have S := Lib.hid hS
  clear hR hS
  have HU := Lib.hid hu
  have HT := Lib.hid ht
  have HD := Lib.hid hd
  have HC := Lib.hid hc
  have HR := Lib.hid hr
  clear hu ht hd hc hr
  have k1 : decide ((k : Int) < 1) = false := by simp; omega
  have k6 : decide (6 < (k : Int)) = false := by simp; omega
  go_enter Tryd.func10, Tryd.ntmps10
  go_wp2_with fail
  refine (shown_any a0 a1 a2 _ hE).mono ?_
  rintro e w1 ⟨rfl, hb1⟩
  have hE1 := hE.below hb1
  go_wp2_with fail
  refine (bytes_any a0 a1 a2 _ _ _ hE1).mono ?_
  rintro e w2 ⟨rfl, hb2⟩
  have hE2 := hE1.below hb2
  rw [R.out]
  go_wp2_with fail
  refine (bytes_any a0 a1 a2 _ _ _ hE2).mono ?_
  rintro e w3 ⟨rfl, hb3⟩
  rw [S.out]
  have hB : Below w.heap.size w w3 := (hb1.trans (hb2.mono hb1.size)).trans (hb3.mono (Nat.le_trans hb1.size hb2.size))
  clear hb1 hb2 hb3 hE1 hE2 hE
  go_wp2_with fail
  go_loop [10, 11] (fun p i => ∃ j : Nat, j ≤ k ∧ p = .int .i64 ((pow256 j : Nat) : Int) ∧ i = .int .i64 (j : Int)) (fun _ i => k - (intOf i).toNat)
  case atStart => exact ⟨0, Nat.zero_le _, rfl, rfl⟩
  case round =>
    obtain ⟨j, hj, rfl, rfl⟩ := hrel
    by_cases hlt : j < k
    · have hp : pow256 j ≤ 1099511627776 := pow256_le (j := 5) (by omega)
      have HP := Lib.hid (pow256_succ j)
      generalize pow256 j = p at *
      go_wp2
      go_round
      case rel => exact ⟨j + 1, by omega, by rw [HP.out]; go_num, by go_num⟩
      case measure => simp [intOf]; omega
    · obtain rfl : j = k := by omega
      have hu := HU.out
      have ht := HT.out
      have hd := HD.out
      have hc := HC.out
      have hr := HR.out
      generalize pow256 j = p at *
      cases r <;> cases t <;> cases u
      all_goals
        simp only [Bool.and_true, Bool.and_false, Bool.false_and, Bool.true_and] at hd
        go_wp2_with (go_at_call 17; refine (right_any _ _).mono ?_; rintro e w' ⟨rfl, rfl⟩)
        go_ret
        exact ⟨rfl, hB⟩

theorem fits_walk (a0 a1 a2 : Addr) (n k : Int) (w : World) (hE : Env a0 a1 a2 w) (_ : (Lit.int .i64 n).wf = true) (_ : (Lit.int .i64 k).wf = true) :
    Calls Tryd.prog 10 #[.int .i64 n, .int .i64 k] w fun e w' => e = .returned (.bool true) ∧ Below w.heap.size w w' := by
  by_cases hk : k < 1 ∨ 6 < k
  · exact fits_out a0 a1 a2 n k _ _ _ _ w hE rfl rfl _ rfl (bytesR8 n) hk
  · obtain ⟨j, rfl⟩ := Int.eq_ofNat_of_zero_le (show 0 ≤ k by omega)
    exact fits_in a0 a1 a2 n j _ _ _ _ w hE rfl rfl _ _ _ rfl (bytesR8 n) (by omega) (by omega) rfl rfl (bytesRk n j (by omega) (by omega))
end Go.Proofs.YtjnfalgcfifciaaDoor
