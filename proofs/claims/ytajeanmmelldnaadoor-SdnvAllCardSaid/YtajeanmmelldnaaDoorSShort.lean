/- A beginning of a number's groups that is not all of them is too short: the walk of SdnvShort; and its pure facts. -/
import Derived.Test.YtajeanmmelldnaaDoorSShown
set_option linter.unusedVariables false
set_option linter.unusedSimpArgs false
namespace Go.Proofs.YtajeanmmelldnaaDoor
open Go.RowKit

/-- The two ways of Encode. -/
theorem encR_cases (n : Int) : (¬ Num n ∧ encR n = (⟨#[]⟩, 10)) ∨ ∃ m : Nat, n = m ∧ m ≤ 281474976710655 ∧ encR n = (⟨(grpL m).toArray⟩, 0) := by
  by_cases h : Num n
  · obtain ⟨m, rfl⟩ := Int.eq_ofNat_of_zero_le h.1
    exact .inr ⟨m, rfl, by have := h.2; omega, encR_ok h⟩
  · exact .inl ⟨h, encR_bad h⟩

theorem grp_take_short (n j : Nat) (h : j < (grpL n).length) : spanG ((grpL n).take j) = none := by
  apply spanG_none
  intro x hx
  have e : (grpL n).take j = (hiL (n / 128)).take j := by
    unfold grpL at h ⊢
    rw [List.take_append_of_le_length]
    simp at h
    omega
  rw [e] at hx
  exact hiL_big _ x (List.mem_of_mem_take hx)

theorem dropB_extract (l : List UInt8) (j : Nat) : dropB ((⟨l.toArray⟩ : ByteArray).extract 0 j) 0 = l.take j := by
  rw [dropB_zero, ByteArray.data_extract]
  simp [Array.toList_extract, List.extract]

set_option maxRecDepth 100000 in
set_option maxHeartbeats 2000000 in
theorem short_of (n at0 : Int) (q : ByteArray) (k x y z : Int) (w : World) (hG : EnvE w) (hA : encR n = (q, k)) (hq : q.size ≤ 7)
    (h : (k != 0) = true ∨ (k != 0) = false ∧ decide (at0 < 0) = true ∨ (k != 0) = false ∧ decide (at0 < 0) = false ∧ decide ((q.size : Int) ≤ at0) = true ∨ ∃ j : Nat, at0 = j ∧ (k != 0) = false ∧ decide ((j : Int) < 0) = false ∧ j < q.size ∧ decR (q.extract 0 j) 0 = (x, y, z) ∧ (z == 11) = true) :
    Calls Tryd.prog 9 #[.int .i64 n, .int .i64 at0] w fun e w' => e = .returned (.bool true) ∧ Below w.heap.size w w' := by
  have HA := Lib.hid hA
  clear hA
  rcases h with h | ⟨h, h1⟩ | ⟨h, h1, h2⟩ | ⟨j, rfl, h, h1, h2, hd, h3⟩
  case inr.inr.inr =>
    have HD := Lib.hid hd
    clear hd
    have h4 : decide (q.size ≤ j) = false := by simp; omega
    go_enter Tryd.func9, Tryd.ntmps9
    go_wp2_with fail
    refine (shown_any _ hG).mono ?_
    rintro e w1 ⟨rfl, hb1⟩
    have hG1 := hG.below hb1
    go_wp2_with fail
    refine (encode_any _ _ hG1).mono ?_
    rintro e w2 ⟨rfl, hb2⟩
    have hG2 := hG1.below hb2
    replace hb2 := hb1.trans (hb2.mono hb1.size)
    rw [HA.out]
    go_wp2_with fail
    refine (decode_any _ _ _ hG2 (by rw [ByteArray.size_extract]; omega)).mono ?_
    rintro e w3 ⟨rfl, hb3⟩
    replace hb3 := hb2.trans (hb3.mono hb2.size)
    rw [HD.out]
    go_wp2
    go_ret
    exact ⟨rfl, hb3⟩
  all_goals
    go_enter Tryd.func9, Tryd.ntmps9
    go_wp2_with fail
    refine (shown_any _ hG).mono ?_
    rintro e w1 ⟨rfl, hb1⟩
    have hG1 := hG.below hb1
    go_wp2_with fail
    refine (encode_any _ _ hG1).mono ?_
    rintro e w2 ⟨rfl, hb2⟩
    replace hb2 := hb1.trans (hb2.mono hb1.size)
    rw [HA.out]
    go_wp2
    go_ret
    exact ⟨rfl, hb2⟩

theorem short_walk (n at0 : Int) (w : World) (hG : EnvE w) (_ : (Lit.int .i64 n).wf = true) (_ : (Lit.int .i64 at0).wf = true) :
    Calls Tryd.prog 9 #[.int .i64 n, .int .i64 at0] w fun e w' => e = .returned (.bool true) ∧ Below w.heap.size w w' := by
  refine short_of n at0 (encR n).1 (encR n).2 (decR ((encR n).1.extract 0 at0.toNat) 0).1 (decR ((encR n).1.extract 0 at0.toNat) 0).2.1 (decR ((encR n).1.extract 0 at0.toNat) 0).2.2 w hG rfl (encR_size n) ?_
  · rcases encR_cases n with ⟨_, h⟩ | ⟨m, rfl, hm, h⟩
    · rw [h]; exact .inl rfl
    · rw [h]
      by_cases h0 : at0 < 0
      · exact .inr (.inl ⟨rfl, by simpa using h0⟩)
      · obtain ⟨j, rfl⟩ := Int.eq_ofNat_of_zero_le (show 0 ≤ at0 by omega)
        have hsz : (⟨(grpL m).toArray⟩ : ByteArray).size = (grpL m).length := by show (grpL m).toArray.size = _; simp
        by_cases h1 : (grpL m).length ≤ j
        · exact .inr (.inr (.inl ⟨rfl, by simp, by simp [hsz, h1]⟩))
        · refine .inr (.inr (.inr ⟨j, rfl, rfl, by simp, show j < (⟨(grpL m).toArray⟩ : ByteArray).size by omega, ?_, ?_⟩))
          · simp
          · rw [Int.toNat_natCast, decR_bad (decL_none (by rw [dropB_extract]; exact grp_take_short m j (by omega)))]
            rfl
end Go.Proofs.YtajeanmmelldnaaDoor
