/- A beginning of a head's bytes that is not all of them is too short: the walk of HeadShort. -/
import Derived.Test.YtnmdbmmkmbdiaaaDoorHLP
set_option linter.unusedVariables false
set_option linter.unusedSimpArgs false
namespace Go.Proofs.YtnmdbmmkmbdiaaaDoor
open Go.RowKit

set_option maxRecDepth 100000 in
set_option maxHeartbeats 2000000 in
theorem short_of (x n at0 : Int) (q : ByteArray) (e d0 d1 d2 f : Int) (w : World) (hH : HeadOK w) (hA : hencR x n = (q, e)) (hq9 : q.size ≤ 9)
    (h : (e != 0) = true ∨ ((e != 0) = false ∧ decide (at0 < 0) = true) ∨ ((e != 0) = false ∧ decide (at0 < 0) = false ∧ decide ((q.size : Int) ≤ at0) = true) ∨
      (∃ j : Nat, at0 = j ∧ (e != 0) = false ∧ decide ((j : Int) < 0) = false ∧ j < q.size ∧ hdecR (q.extract 0 j) 0 = (d0, d1, d2, f) ∧ (f == 11) = true)) :
    Calls Tryd.prog 8 #[.int .i64 x, .int .i64 n, .int .i64 at0] w fun e w' => e = .returned (.bool true) ∧ Below w.heap.size w w' := by
  have HA := Lib.hid hA
  clear hA
  rcases h with h1 | ⟨h1, h2⟩ | ⟨h1, h2, h3⟩ | ⟨j, rfl, h1, h2, h3, hd, h5⟩
  case' inr.inr.inr =>
    have HD := Lib.hid hd
    clear hd
    have h4 : decide (q.size ≤ j) = false := by simp; omega
    go_enter Tryd.func8, Tryd.ntmps8
    go_wp2_with fail
    refine (shown_any _ hH).mono ?_
    rintro e w1 ⟨rfl, hb1⟩
    go_wp2_with fail
    refine (hencode_any _ _ _ (hH.below hb1)).mono ?_
    rintro e w2 ⟨rfl, hb2⟩
    replace hb2 := hb1.trans (hb2.mono hb1.size)
    rw [HA.out]
    go_wp2_with fail
    refine (hdecode_any _ _ _ (hH.below hb2) (by rw [ByteArray.size_extract]; omega)).mono ?_
    rintro e w3 ⟨rfl, hb3⟩
    replace hb3 := hb2.trans (hb3.mono hb2.size)
    rw [HD.out]
    clear hb1 hb2
    go_wp2
    go_ret
    exact ⟨rfl, hb3⟩
  all_goals
    go_enter Tryd.func8, Tryd.ntmps8
    go_wp2_with fail
    refine (shown_any _ hH).mono ?_
    rintro e w1 ⟨rfl, hb1⟩
    go_wp2_with fail
    refine (hencode_any _ _ _ (hH.below hb1)).mono ?_
    rintro e w2 ⟨rfl, hb2⟩
    replace hb2 := hb1.trans (hb2.mono hb1.size)
    rw [HA.out]
    clear hb1
    go_wp2
    go_ret
    exact ⟨rfl, hb2⟩

theorem short_walk (x n at0 : Int) (w : World) (hH : HeadOK w) (_ : (Lit.int .i64 x).wf = true) (_ : (Lit.int .i64 n).wf = true) (_ : (Lit.int .i64 at0).wf = true) :
    Calls Tryd.prog 8 #[.int .i64 x, .int .i64 n, .int .i64 at0] w fun e w' => e = .returned (.bool true) ∧ Below w.heap.size w w' := by
  refine short_of x n at0 (hencR x n).1 (hencR x n).2 0 0 0 11 w hH rfl (hencR_sz x n) ?_
  rcases hencR_cases x n with ⟨c, h, h1, h2⟩ | ⟨M, N, rfl, rfl, hM, hN, h⟩
  · rw [h]; exact .inl h1
  · rw [h]
    by_cases h0 : at0 < 0
    · exact .inr (.inl ⟨rfl, by simpa using h0⟩)
    · obtain ⟨j, rfl⟩ := Int.eq_ofNat_of_zero_le (show 0 ≤ at0 by omega)
      have hsz := head_size M N
      by_cases h1 : (headL M N).length ≤ j
      · exact .inr (.inr (.inl ⟨rfl, by simp, by simp [hsz, h1]⟩))
      · refine .inr (.inr (.inr ⟨j, rfl, rfl, by simp, show j < (⟨(headL M N).toArray⟩ : ByteArray).size by omega, ?_, rfl⟩))
        rcases j with _ | j
        · refine hdecR_out (.inr ?_)
          rw [ByteArray.size_extract]
          simp
        · refine hdecR_err (i := 0) ?_ ?_
          · rw [ByteArray.size_extract]
            show 0 < min (j + 1) (⟨(headL M N).toArray⟩ : ByteArray).size - 0
            omega
          · have e : ((⟨(headL M N).toArray⟩ : ByteArray).extract 0 (j + 1)).data.toList = (headL M N).take (j + 1) := by
              rw [← ByteArray.toList_eq, extract_list]
            rw [List.drop_zero, e]
            exact head_short hM hN (by omega)
end Go.Proofs.YtnmdbmmkmbdiaaaDoor
