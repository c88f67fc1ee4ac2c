/- Tables, sums by tables, and sums' bytes are the document's: the walk of CrcSums. -/
import Derived.Test.YtpccbiopljmnlaaDoorCRefS
import Derived.Test.YtpccbiopljmnlaaDoorCShown
set_option linter.unusedVariables false
set_option linter.unusedSimpArgs false
namespace Go.Proofs.YtpccbiopljmnlaaDoor
open Go.RowKit

set_option maxHeartbeats 400000 in
theorem lawFew_any (A : Option Addr) (n c : Nat) (w : World) (hn : n ≤ c) (hs : c ≤ maxLen) :
    Calls Tryd.prog 10 #[.slice A n c] w fun e w' => e = .returned (.slice A (min n 257) c) ∧ w = w' := by
  unfold maxLen at hs
  go_enter Tryd.func10, Tryd.ntmps10
  go_wp2
  · go_ret
    exact ⟨congrArg (fun k => Ending.returned (.slice A k c)) (show 257 = min n 257 by omega), rfl⟩
  · go_ret
    exact ⟨congrArg (fun k => Ending.returned (.slice A k c)) (show n = min n 257 by omega), rfl⟩

theorem tabR_len (k : Int) : (tabR k).1.length ≤ 1000 := by
  by_cases h1 : k = 1
  · subst h1; show (tabL 33800).length ≤ 1000; rw [tabL_length]; omega
  by_cases h2 : k = 2
  · subst h2; show (tabL 2197175160).length ≤ 1000; rw [tabL_length]; omega
  · rw [tabR_no h1 h2]; decide

set_option maxRecDepth 100000 in
set_option maxHeartbeats 2000000 in
theorem sums_of (k : Int) (n c : Nat) (A : Option Addr) (s q : ByteArray) (xs T : List Nat) (te : Int) (x : Nat) (xe : Int) (o : ByteArray) (oe z : Int) (w : World) (hC : CrcOK w) (hs : s.size ≤ maxLen) (hn : n ≤ c) (hc : c ≤ maxLen) (hq : s.extract 0 (min s.size 200) = q) (hql : q.size ≤ 200)
    (hl : xs.length = min n 257) (hf : Fit32 xs) (hr : U32Rd w A xs) (hT : tabR k = (T, te)) (hTl : T.length ≤ 1000) (hX : sumR k xs q = (x, xe)) (hO : ofR k q = (o, oe)) (hZ : sizR k = z) :
    Calls Tryd.prog 3 #[.int .i64 k, .slice A n c, .string s] w fun e w' => e = .returned (.bool true) ∧ Below w.heap.size w w' := by
  have Q := Lib.hid hq
  have HL := Lib.hid hl
  have HF := Lib.hid hf
  have HR := Lib.hid hr
  have HT := Lib.hid hT
  have HTl := Lib.hid hTl
  have HX := Lib.hid hX
  have HO := Lib.hid hO
  have HZ := Lib.hid hZ
  clear hq hl hf hr hT hTl hX hO hZ
  have e1 : (te == te) = true := by simp
  have e2 : ((x : Int) == (x : Int)) = true := by simp
  have e3 : (xe == xe) = true := by simp
  have e4 : (o.toList == o.toList) = true := by simp
  have e5 : (oe == oe) = true := by simp
  have e6 : (z == z) = true := by simp
  go_enter Tryd.func3, Tryd.ntmps3
  go_wp2_with fail
  refine (shown_any _ hC).mono ?_
  rintro e w1 ⟨rfl, hw1⟩
  go_wp2_with fail
  refine (lawFew_any A n c _ hn hc).mono ?_
  rintro e w' ⟨rfl, rfl⟩
  rw [← HL.out]
  go_wp2_with fail
  refine (lawCut_any s _ hs).mono ?_
  rintro e w' ⟨rfl, rfl⟩
  rw [Q.out]
  go_wp2_with fail
  refine (table_any k _ (hC.below hw1)).mono ?_
  rintro e w2 ⟨A1, c1, rfl, hc1, hU1, hw2⟩
  rw [HT.out] at hU1 hc1 ⊢
  replace hw2 := hw1.trans (hw2.mono hw1.size)
  clear hc1
  go_wp2_with fail
  refine (rtable_any k _).mono ?_
  rintro e w3 ⟨A2, c2, rfl, hc2, hU2, hw3⟩
  rw [HT.out] at hU2 hc2 ⊢
  have hU1' := hU1.below hw3
  replace hw3 := hw2.trans (hw3.mono hw2.size)
  clear hc2 hU1
  go_wp2_with fail
  refine (sum_any k xs A c q _ (hC.below hw3) (by omega) HF.out (HR.out.below hw3)).mono ?_
  rintro e w4 ⟨rfl, hw4⟩
  have hU1 := hU1'.below hw4
  have hU2' := hU2.below hw4
  replace hw4 := hw3.trans (hw4.mono hw3.size)
  rw [HX.out]
  clear hU1' hU2
  go_wp2_with fail
  refine (rsum_any k xs A c q _ (by omega) HF.out (HR.out.below hw4)).mono ?_
  rintro e w' ⟨rfl, rfl⟩
  rw [HX.out]
  go_wp2_with fail
  refine (of_any k q _ (hC.below hw4) (by omega)).mono ?_
  rintro e w5 ⟨rfl, hw5⟩
  have hU1' := hU1.below hw5
  have hU2 := hU2'.below hw5
  replace hw5 := hw4.trans (hw5.mono hw4.size)
  rw [HO.out]
  clear hU1 hU2'
  go_wp2_with fail
  refine (rof_any k q _ (by omega)).mono ?_
  rintro e w6 ⟨rfl, hw6⟩
  have hU1 := hU1'.below hw6
  have hU2' := hU2.below hw6
  replace hw6 := hw5.trans (hw6.mono hw5.size)
  rw [HO.out]
  clear hU1' hU2
  have H1 := Lib.hid hU1
  have H2 := Lib.hid hU2'
  have HW6 := Lib.hid hw6
  clear hU1 hU2' hw1 hw2 hw3 hw4 hw5 hw6
  go_wp2_with fail
  refine (same_any T A1 A2 c1 c2 _ HTl.out H1.out H2.out).mono ?_
  rintro e w7 ⟨rfl, hw7⟩
  have HW7 := Lib.hid (HW6.out.trans (hw7.mono HW6.out.size))
  clear hw7
  go_wp2_with fail
  refine (size_any k _ (hC.below HW7.out)).mono ?_
  rintro e w8 ⟨rfl, hw8⟩
  have HW8 := Lib.hid (HW7.out.trans (hw8.mono HW7.out.size))
  rw [HZ.out]
  clear hw8
  go_wp2_with fail
  refine (rsize_any k _).mono ?_
  rintro e w' ⟨rfl, rfl⟩
  rw [HZ.out]
  go_wp2
  go_ret
  exact ⟨rfl, HW8.out⟩

theorem sums_walk (k : Int) (ys : List Nat) (A : Option Addr) (c : Nat) (s : ByteArray) (w : World) (hC : CrcOK w) (_ : (Lit.int .i64 k).wf = true) (hr : U32Rd w A ys ∧ Fit32 ys) (hn : ys.length ≤ c) (hc : c ≤ maxLen) (hs : s.size ≤ maxLen) :
    Calls Tryd.prog 3 #[.int .i64 k, .slice A ys.length c, .string s] w fun e w' => e = .returned (.bool true) ∧ Below w.heap.size w w' := by
  refine sums_of k ys.length c A s _ (ys.take 257) _ _ _ _ _ _ _ w hC hs hn hc rfl (cut_le s) (by rw [List.length_take]; omega) (fun x hx => hr.2 x (List.mem_of_mem_take hx)) (hr.1.take 257) rfl (tabR_len k) rfl rfl rfl
end Go.Proofs.YtpccbiopljmnlaaDoor
