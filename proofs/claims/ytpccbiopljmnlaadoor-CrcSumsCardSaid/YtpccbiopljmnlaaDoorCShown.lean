/- What shown and cut, of the statements' package 05, answer. -/
import Derived.Test.YtpccbiopljmnlaaDoorCLaid
set_option linter.unusedVariables false
set_option linter.unusedSimpArgs false
namespace Go.Proofs.YtpccbiopljmnlaaDoor
open Go.RowKit

theorem cut_le (s : ByteArray) : (s.extract 0 (min s.size 200)).size ≤ 200 := by rw [ByteArray.size_extract]; omega

set_option maxHeartbeats 400000 in
theorem lawCut_any (s : ByteArray) (w : World) (hs : s.size ≤ maxLen) :
    Calls Tryd.prog 11 #[.string s] w fun e w' => e = .returned (.string (s.extract 0 (min s.size 200))) ∧ w = w' := by
  unfold maxLen at hs
  go_enter Tryd.func11, Tryd.ntmps11
  go_wp2
  · go_ret
    exact ⟨congrArg (fun k => Ending.returned (.string (s.extract 0 k))) (show 200 = min s.size 200 by omega), rfl⟩
  · go_ret
    have e0 : s.extract 0 (min s.size 200) = s := by
      rw [show min s.size 200 = s.size by omega]; exact ByteArray.extract_zero_size
    exact ⟨congrArg (fun q => Ending.returned (.string q)) e0.symm, rfl⟩

set_option maxRecDepth 100000 in
set_option maxHeartbeats 1000000 in
theorem shown_any (w : World) (hC : CrcOK w) :
    Calls Tryd.prog 9 #[] w fun e w' => e = .returned (.bool true) ∧ Below w.heap.size w w' := by
  have r1 := Lib.hid (show ofR 1 ⟨#[49, 50, 51, 52, 53, 54, 55, 56, 57]⟩ = (⟨#[144, 110]⟩, 0) by decide +kernel)
  have r2 := Lib.hid (show ofR 2 ⟨#[49, 50, 51, 52, 53, 54, 55, 56, 57]⟩ = (⟨#[227, 6, 146, 131]⟩, 0) by decide +kernel)
  have r3 := Lib.hid (show ofR 3 ⟨#[]⟩ = (⟨#[]⟩, 2) by decide +kernel)
  have r4 := Lib.hid (show sumR 1 [] ⟨#[]⟩ = (0, 50) by decide +kernel)
  have r5 := Lib.hid (show (tabR 1).1.length = 256 from tabL_length 33800)
  have r6 := Lib.hid (show (tabR 1).2 = 0 from rfl)
  have r7 := Lib.hid (show sizR 2 = 4 from rfl)
  go_enter Tryd.func9, Tryd.ntmps9
  go_wp2_with fail
  refine (of_any _ _ _ hC (by decide)).mono ?_
  rintro e w1 ⟨rfl, hb1⟩
  rw [r1.out]
  have hC1 := hC.below hb1
  go_wp2_with fail
  refine (of_any _ _ _ hC1 (by decide)).mono ?_
  rintro e w2 ⟨rfl, hb2⟩
  rw [r2.out]
  replace hb2 := hb1.trans (hb2.mono hb1.size)
  have hC2 := hC.below hb2
  go_wp2_with fail
  refine (table_any _ _ hC2).mono ?_
  rintro e w3 ⟨A, c, rfl, hc, hU, hb3⟩
  rw [r5.out, r6.out]
  replace hb3 := hb2.trans (hb3.mono hb2.size)
  have hC3 := hC.below hb3
  clear hU hc
  go_wp2_with fail
  refine (of_any _ _ _ hC3 (by decide)).mono ?_
  rintro e w4 ⟨rfl, hb4⟩
  rw [r3.out]
  replace hb4 := hb3.trans (hb4.mono hb3.size)
  have hC4 := hC.below hb4
  go_wp2_with fail
  refine (sum_any 1 [] none 0 _ _ hC4 (by decide) (fun x h => by cases h) (U32Rd.nil _ _)).mono ?_
  rintro e w5 ⟨rfl, hb5⟩
  rw [r4.out]
  replace hb5 := hb4.trans (hb5.mono hb4.size)
  have hC5 := hC.below hb5
  have HB5 := Lib.hid hb5
  clear hb1 hb2 hb3 hb4 hb5 hC1 hC2 hC3 hC4
  go_wp2_with fail
  refine (size_any _ _ hC5).mono ?_
  rintro e w6 ⟨rfl, hb6⟩
  rw [r7.out]
  have HB6 := Lib.hid (HB5.out.trans (hb6.mono HB5.out.size))
  clear hb6
  go_wp2
  go_ret
  exact ⟨rfl, HB6.out⟩
end Go.Proofs.YtpccbiopljmnlaaDoor
