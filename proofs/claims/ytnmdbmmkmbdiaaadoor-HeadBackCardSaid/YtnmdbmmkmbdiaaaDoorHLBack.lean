/- A head is decoded from its bytes, whatever stands ahead and behind, and what is decoded has these bytes: the walk of HeadBack. -/
import Derived.Test.YtnmdbmmkmbdiaaaDoorHLP
set_option linter.unusedVariables false
set_option linter.unusedSimpArgs false
namespace Go.Proofs.YtnmdbmmkmbdiaaaDoor
open Go.RowKit

set_option maxRecDepth 100000 in
set_option maxHeartbeats 4000000 in
theorem back_of (x n : Int) (s t q r a u : ByteArray) (e b c z f d g y h k : Int) (w : World) (hH : HeadOK w) (hs : s.size ≤ maxLen) (ht : t.size ≤ maxLen) (hq : s.extract 0 (min s.size 100) = q) (hql : q.size ≤ 100) (hr : t.extract 0 (min t.size 100) = r) (hrl : r.size ≤ 100)
    (hA : hencR x n = (a, e)) (hal : a.size ≤ 9) (hT : hdecR (q ++ a ++ r) q.size = (b, c, z, f)) (hC : hdecR r 0 = (d, g, y, h)) (hD : hencR d g = (u, k)) (hu9 : u.size ≤ 9)
    (h1 : (e == 0) = false ∨ (e == 0) = true ∧ (f != 0) = false ∧ (b != x) = false ∧ (c != n) = false ∧ (z != (q.size : Int) + (a.size : Int)) = false)
    (h2 : (h != 0) = true ∧ d = 0 ∧ g = 0 ∧ y = 0 ∨ ∃ j : Nat, y = j ∧ (h != 0) = false ∧ (h == 0) = true ∧ (k == 0) = true ∧ 1 ≤ j ∧ j ≤ r.size ∧ ((r.extract 0 j).toList == u.toList) = true) :
    Calls Tryd.prog 4 #[.int .i64 x, .int .i64 n, .string s, .string t] w fun e w' => e = .returned (.bool true) ∧ Below w.heap.size w w' := by
  have Q := Lib.hid hq
  have HRR := Lib.hid hr
  have HA := Lib.hid hA
  have HT := Lib.hid hT
  have HC := Lib.hid hC
  have HD := Lib.hid hD
  clear hq hr hA hT hC hD
  rcases h1 with h1 | ⟨h1, h1a, h1b, h1c, h1d⟩ <;> rcases h2 with ⟨h2, rfl, rfl, rfl⟩ | ⟨j, rfl, h2, h2a, h2b, h2c, hjr, h2d⟩
  all_goals
    go_enter Tryd.func4, Tryd.ntmps4
    go_wp2_with fail
    refine (shown_any _ hH).mono ?_
    rintro e w1 ⟨rfl, hb1⟩
    go_wp2_with fail
    refine (lawCut_any s _ hs).mono ?_
    rintro e w' ⟨rfl, rfl⟩
    rw [Q.out]
    go_wp2_with fail
    refine (lawCut_any t _ ht).mono ?_
    rintro e w' ⟨rfl, rfl⟩
    rw [HRR.out]
    go_wp2_with fail
    refine (hencode_any _ _ _ (hH.below hb1)).mono ?_
    rintro e w2 ⟨rfl, hb2⟩
    replace hb2 := hb1.trans (hb2.mono hb1.size)
    rw [HA.out]
    go_wp2_with fail
    refine (hdecode_any _ _ _ (hH.below hb2) (by simp only [ByteArray.size_append]; omega)).mono ?_
    rintro e w3 ⟨rfl, hb3⟩
    replace hb3 := hb2.trans (hb3.mono hb2.size)
    rw [HT.out]
    go_wp2_with fail
    refine (hdecode_any _ _ _ (hH.below hb3) (by omega)).mono ?_
    rintro e w4 ⟨rfl, hb4⟩
    replace hb4 := hb3.trans (hb4.mono hb3.size)
    rw [HC.out]
    go_wp2_with fail
    refine (hencode_any _ _ _ (hH.below hb4)).mono ?_
    rintro e w5 ⟨rfl, hb5⟩
    replace hb5 := hb4.trans (hb5.mono hb4.size)
    rw [HD.out]
    have HB := Lib.hid hb5
    clear hb1 hb2 hb3 hb4 hb5
    go_wp2
    go_ret
    exact ⟨rfl, HB.out⟩

theorem back_walk (x n : Int) (s t : ByteArray) (w : World) (hH : HeadOK w) (_ : (Lit.int .i64 x).wf = true) (_ : (Lit.int .i64 n).wf = true) (hs : s.size ≤ maxLen) (ht : t.size ≤ maxLen) :
    Calls Tryd.prog 4 #[.int .i64 x, .int .i64 n, .string s, .string t] w fun e w' => e = .returned (.bool true) ∧ Below w.heap.size w w' := by
  have hql := cut_le s
  have hrl := cut_le t
  generalize hq : s.extract 0 (min s.size 100) = q at *
  generalize hr : t.extract 0 (min t.size 100) = r at *
  refine back_of x n s t q r (hencR x n).1 (hencR (hdecR r 0).1 (hdecR r 0).2.1).1 (hencR x n).2 (hdecR (q ++ (hencR x n).1 ++ r) q.size).1 (hdecR (q ++ (hencR x n).1 ++ r) q.size).2.1 (hdecR (q ++ (hencR x n).1 ++ r) q.size).2.2.1 (hdecR (q ++ (hencR x n).1 ++ r) q.size).2.2.2
    (hdecR r 0).1 (hdecR r 0).2.1 (hdecR r 0).2.2.1 (hdecR r 0).2.2.2 (hencR (hdecR r 0).1 (hdecR r 0).2.1).2 w hH hs ht hq hql hr hrl rfl (hencR_sz x n) rfl rfl rfl (hencR_sz _ _) ?_ ?_
  · rcases hencR_cases x n with ⟨c, h, h1, h2⟩ | ⟨M, N, rfl, rfl, hM, hN, h⟩
    · rw [h]; exact .inl h2
    · rw [h, hdecR_head q r hM hN]
      refine .inr ⟨rfl, rfl, by simp, by simp, ?_⟩
      show ((q.size : Int) + ((headL M N).length : Int) != (q.size : Int) + ((⟨(headL M N).toArray⟩ : ByteArray).size : Int)) = false
      rw [head_size]
      simp
  · rcases hdecR_cases r 0 with ⟨e, h, he⟩ | ⟨i, M, N, k, hi0, hi, hd, h⟩
    · rw [h]
      refine .inl ⟨?_, rfl, rfl, rfl⟩
      rcases he with rfl | rfl | rfl <;> rfl
    · obtain rfl : i = 0 := by omega
      obtain ⟨hM, hN, hk, hkl, htk⟩ := hdL_back hd
      rw [List.drop_zero] at hkl htk
      have hkr : k ≤ r.size := by rw [Array.length_toList] at hkl; exact hkl
      rw [h]
      show _ ∨ ∃ j : Nat, _ ∧ _ ∧ _ ∧ ((hencR (M : Int) (N : Int)).2 == 0) = true ∧ _ ∧ _ ∧ ((r.extract 0 j).toList == (hencR (M : Int) (N : Int)).1.toList) = true
      rw [hencR_of hM hN]
      refine .inr ⟨k, by show ((0 : Nat) : Int) + (k : Int) = (k : Int); omega, rfl, rfl, rfl, ?_, hkr, ?_⟩
      · rw [hk, headL_length]; omega
      · have e : (r.extract 0 k).toList = headL M N := by
          rw [ByteArray.toList_eq, ByteArray.data_extract, Array.toList_extract, List.extract_eq_take_drop, List.drop_zero, Nat.sub_zero, htk]
        show ((r.extract 0 k).toList == (⟨(headL M N).toArray⟩ : ByteArray).toList) = true
        rw [e, bytes_list (headL M N)]
        simp
end Go.Proofs.YtnmdbmmkmbdiaaaDoor
