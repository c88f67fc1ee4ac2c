/- A sum's bytes are those of the sum by the kind's own table: the walk of CrcOwn. -/
import Derived.Test.YtpccbiopljmnlaaDoorCStr
import Derived.Test.YtpccbiopljmnlaaDoorCLaw
set_option linter.unusedVariables false
set_option linter.unusedSimpArgs false
namespace Go.Proofs.YtpccbiopljmnlaaDoor
open Go.RowKit

set_option maxRecDepth 100000 in
set_option maxHeartbeats 2000000 in
theorem own_yes (k : Int) (s q u : ByteArray) (T : List Nat) (n : Nat) (w : World) (hC : CrcOK w) (hs : s.size ≤ maxLen) (hq : s.extract 0 (min s.size 200) = q) (hql : q.size ≤ 200) (hT : tabR k = (T, 0)) (hf : Fit32 T) (hn : sumR k T q = (n, 0)) (hu : ofR k q = (u, 0)) (hz : sizR k = (u.size : Int)) (hul : u.size ≤ 4) (hv : valL u.data.toList = n) :
    Calls Tryd.prog 4 #[.int .i64 k, .string s] w fun e w' => e = .returned (.bool true) ∧ Below w.heap.size w w' := by
  have Q := Lib.hid hq
  have HT := Lib.hid hT
  have HF := Lib.hid hf
  have HN := Lib.hid hn
  have HU := Lib.hid hu
  have HZ := Lib.hid hz
  have HV := Lib.hid hv
  clear hq hT hf hn hu hz hv
  have hus : ((u.size : Int) != (u.size : Int)) = false := by simp
  go_enter Tryd.func4, Tryd.ntmps4
  go_wp2_with fail
  refine (shown_any _ hC).mono ?_
  rintro e w1 ⟨rfl, hw1⟩
  go_wp2_with fail
  refine (lawCut_any s _ hs).mono ?_
  rintro e w' ⟨rfl, rfl⟩
  rw [Q.out]
  go_wp2_with fail
  refine (table_any k _ (hC.below hw1)).mono ?_
  rintro e w2 ⟨A, c, rfl, hc, hU, hw2⟩
  rw [HT.out] at hU hc ⊢
  replace hw2 := hw1.trans (hw2.mono hw1.size)
  have HUU := Lib.hid hU
  clear hU hc
  go_wp2_with fail
  refine (sum_any k T A c q _ (hC.below hw2) (by omega) HF.out HUU.out).mono ?_
  rintro e w3 ⟨rfl, hw3⟩
  replace hw3 := hw2.trans (hw3.mono hw2.size)
  rw [HN.out]
  go_wp2_with fail
  refine (of_any k q _ (hC.below hw3) (by omega)).mono ?_
  rintro e w4 ⟨rfl, hw4⟩
  replace hw4 := hw3.trans (hw4.mono hw3.size)
  rw [HU.out]
  go_wp2_with fail
  refine (size_any k _ (hC.below hw4)).mono ?_
  rintro e w5 ⟨rfl, hw5⟩
  have HB5 := Lib.hid (hw4.trans (hw5.mono hw4.size))
  rw [HZ.out]
  clear hw1 hw2 hw3 hw4 hw5 HUU
  go_wp2
  go_loop [12, 13] (fun a i => ∃ j : Nat, j ≤ u.size ∧ a = .int .u32 ((valL (firstB u j) : Nat) : Int) ∧ i = .int .i64 (j : Int)) (fun _ i => u.size - (intOf i).toNat)
  case atStart => exact ⟨0, Nat.zero_le _, by simp [firstB, valL], rfl⟩
  case round =>
    obtain ⟨j, hj, rfl, rfl⟩ := hrel
    by_cases hlt : j < u.size
    · have HS := Lib.hid (show valL (firstB u (j + 1)) = 256 * valL (firstB u j) + u[j].toNat by rw [firstB_succ u j hlt, valL_snoc])
      have hb := u[j].toNat_lt
      have hx : valL (firstB u j) < 16777216 := by
        have h1 := valL_lt (firstB u j)
        rw [firstB_length u j hj] at h1
        have : 256 ^ j ≤ 256 ^ 3 := Nat.pow_le_pow_right (by omega) (by omega)
        omega
      generalize valL (firstB u j) = x at *
      go_wp2
      go_round
      case rel => exact ⟨j + 1, by omega, by rw [HS.out]; go_num, by go_num⟩
      case measure => simp [intOf]; omega
    · obtain rfl : j = u.size := by omega
      rw [firstB_all, HV.out]
      clear hj hlt
      go_wp2
      go_ret
      exact ⟨rfl, HB5.out⟩

set_option maxRecDepth 100000 in
set_option maxHeartbeats 2000000 in
theorem own_out (k : Int) (s q : ByteArray) (g : Int) (w : World) (hC : CrcOK w) (hs : s.size ≤ maxLen) (hq : s.extract 0 (min s.size 200) = q) (hql : q.size ≤ 200) (hT : tabR k = ([], 2)) (hn : sumR k [] q = (0, 2)) (hu : ofR k q = (⟨#[]⟩, g))
    (h : (k == 0) = true ∧ g = 0 ∨ (k == 0) = false ∧ (k != 0) = true ∧ g = 2) :
    Calls Tryd.prog 4 #[.int .i64 k, .string s] w fun e w' => e = .returned (.bool true) ∧ Below w.heap.size w w' := by
  have Q := Lib.hid hq
  have HT := Lib.hid hT
  have HN := Lib.hid hn
  have HU := Lib.hid hu
  clear hq hT hn hu
  rcases h with ⟨h1, rfl⟩ | ⟨h1, h2, rfl⟩
  all_goals
    go_enter Tryd.func4, Tryd.ntmps4
    go_wp2_with fail
    refine (shown_any _ hC).mono ?_
    rintro e w1 ⟨rfl, hw1⟩
    go_wp2_with fail
    refine (lawCut_any s _ hs).mono ?_
    rintro e w' ⟨rfl, rfl⟩
    rw [Q.out]
    go_wp2_with fail
    refine (table_any k _ (hC.below hw1)).mono ?_
    rintro e w2 ⟨A, c, rfl, hc, hU, hw2⟩
    rw [HT.out] at hU hc ⊢
    replace hw2 := hw1.trans (hw2.mono hw1.size)
    clear hU hc
    go_wp2_with fail
    refine (sum_any k [] A c q _ (hC.below hw2) (by omega) (fun x h => by cases h) (U32Rd.nil _ _)).mono ?_
    rintro e w3 ⟨rfl, hw3⟩
    replace hw3 := hw2.trans (hw3.mono hw2.size)
    rw [HN.out]
    go_wp2_with fail
    refine (of_any k q _ (hC.below hw3) (by omega)).mono ?_
    rintro e w4 ⟨rfl, hw4⟩
    have HB4 := Lib.hid (hw3.trans (hw4.mono hw3.size))
    rw [HU.out]
    clear hw1 hw2 hw3 hw4
    go_wp2
    go_ret
    exact ⟨rfl, HB4.out⟩

theorem beL_sz (a n : Nat) : (⟨(beL a n).toArray⟩ : ByteArray).size = n := by
  show (beL a n).toArray.size = n
  simp [beL_length]

theorem own_walk (k : Int) (s : ByteArray) (w : World) (hC : CrcOK w) (_ : (Lit.int .i64 k).wf = true) (hs : s.size ≤ maxLen) :
    Calls Tryd.prog 4 #[.int .i64 k, .string s] w fun e w' => e = .returned (.bool true) ∧ Below w.heap.size w w' := by
  have hql := cut_le s
  generalize hq : s.extract 0 (min s.size 200) = q at *
  by_cases h1 : k = 1
  · subst h1
    refine own_yes 1 s q _ (tabL 33800) (sumT 16 (tabL 33800) q.data.toList) w hC hs hq hql rfl (tabL_fit (by omega)) ?_ rfl ?_ ?_ ?_
    · unfold sumR; rw [if_pos rfl, if_pos (tabL_length _)]
    · rw [beL_sz]; rfl
    · rw [beL_sz]; omega
    · exact valL_beL_of_lt (sumT_lt 16 _ _)
  by_cases h2 : k = 2
  · subst h2
    refine own_yes 2 s q _ (tabL 2197175160) (sumT 32 (tabL 2197175160) q.data.toList) w hC hs hq hql rfl (tabL_fit (by omega)) ?_ rfl ?_ ?_ ?_
    · unfold sumR; rw [if_neg (by decide), if_pos rfl, if_pos (tabL_length _)]
    · rw [beL_sz]; rfl
    · rw [beL_sz]; omega
    · exact valL_beL_of_lt (sumT_lt 32 _ _)
  by_cases h0 : k = 0
  · subst h0
    exact own_out 0 s q 0 w hC hs hq hql (tabR_no h1 h2) (sumR_no _ _ h1 h2) rfl (.inl ⟨rfl, rfl⟩)
  · exact own_out k s q 2 w hC hs hq hql (tabR_no h1 h2) (sumR_no _ _ h1 h2) (ofR_no q h0 h1 h2) (.inr ⟨by simpa using h0, by simpa using h0, rfl⟩)
end Go.Proofs.YtpccbiopljmnlaaDoor
