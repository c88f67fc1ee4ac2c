/- What shown and cut, of the statements' package 03, answer. -/
import Derived.Test.YtnmdbmmkmbdiaaaDoorHDec
set_option linter.unusedVariables false
set_option linter.unusedSimpArgs false
namespace Go.Proofs.YtnmdbmmkmbdiaaaDoor
open Go.RowKit

theorem cut_le (s : ByteArray) : (s.extract 0 (min s.size 100)).size ≤ 100 := by rw [ByteArray.size_extract]; omega

set_option maxHeartbeats 400000 in
theorem lawCut_any (s : ByteArray) (w : World) (hs : s.size ≤ maxLen) :
    Calls Tryd.prog 11 #[.string s] w fun e w' => e = .returned (.string (s.extract 0 (min s.size 100))) ∧ w = w' := by
  unfold maxLen at hs
  go_enter Tryd.func11, Tryd.ntmps11
  go_wp2
  · go_ret
    exact ⟨congrArg (fun k => Ending.returned (.string (s.extract 0 k))) (show 100 = min s.size 100 by omega), rfl⟩
  · go_ret
    have e0 : s.extract 0 (min s.size 100) = s := by
      rw [show min s.size 100 = s.size by omega]; exact ByteArray.extract_zero_size
    exact ⟨congrArg (fun q => Ending.returned (.string q)) e0.symm, rfl⟩

set_option maxRecDepth 100000 in
set_option maxHeartbeats 1000000 in
theorem shown_any (w : World) (hH : HeadOK w) :
    Calls Tryd.prog 10 #[] w fun e w' => e = .returned (.bool true) ∧ Below w.heap.size w w' := by
  have r1 := Lib.hid (show hencR 4 300 = (⟨#[153, 1, 44]⟩, 0) by decide +kernel)
  have r2 := Lib.hid (show hdecR ⟨#[97, 153, 1, 44]⟩ 1 = (4, 300, 4, 0) by decide +kernel)
  have r3 := Lib.hid (show hdecR ⟨#[24, 23]⟩ 0 = (0, 0, 0, 20) by decide +kernel)
  have r4 := Lib.hid (show hencR 1 0 = (⟨#[]⟩, 2) by decide +kernel)
  go_enter Tryd.func10, Tryd.ntmps10
  go_wp2_with fail
  refine (hencode_any _ _ _ hH).mono ?_
  rintro e w1 ⟨rfl, hb1⟩
  rw [r1.out]
  have hH1 := hH.below hb1
  go_wp2_with fail
  refine (hdecode_any _ _ _ hH1 (by decide)).mono ?_
  rintro e w2 ⟨rfl, hb2⟩
  rw [r2.out]
  have hH2 := hH1.below hb2
  have hB2 := hb1.trans (hb2.mono hb1.size)
  go_wp2_with fail
  refine (hdecode_any _ _ _ hH2 (by decide)).mono ?_
  rintro e w3 ⟨rfl, hb3⟩
  rw [r3.out]
  have hH3 := hH2.below hb3
  have hB3 := hB2.trans (hb3.mono hB2.size)
  go_wp2_with fail
  refine (hencode_any _ _ _ hH3).mono ?_
  rintro e w4 ⟨rfl, hb4⟩
  rw [r4.out]
  have hB4 := hB3.trans (hb4.mono hB3.size)
  clear hb1 hb2 hb3 hb4 hB2 hB3 hH1 hH2 hH3
  go_wp2
  go_ret
  exact ⟨rfl, hB4⟩
end Go.Proofs.YtnmdbmmkmbdiaaaDoor
