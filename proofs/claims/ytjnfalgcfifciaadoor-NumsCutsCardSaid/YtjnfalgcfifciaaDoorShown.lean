/- What shown, of the statements' package 01, answers: true; and what its cut answers. -/
import Derived.Test.YtjnfalgcfifciaaDoorNumsE
set_option linter.unusedVariables false
set_option linter.unusedSimpArgs false
namespace Go.Proofs.YtjnfalgcfifciaaDoor
open Go.RowKit

set_option maxRecDepth 100000 in
set_option maxHeartbeats 1000000 in
theorem shown_any (a0 a1 a2 : Addr) (w : World) (hE : Env a0 a1 a2 w) :
    Calls Tryd.prog 11 #[] w fun e w' => e = .returned (.bool true) ∧ Below w.heap.size w w' := by
  have r1 := Lib.hid (show bytesR 258 3 = (⟨#[0, 1, 2]⟩, 0) by decide +kernel)
  have r2 := Lib.hid (show takeR ⟨#[1, 2, 3]⟩ 1 2 = (515, 0) by decide +kernel)
  have r3 := Lib.hid (show bytesR 256 1 = (⟨#[]⟩, 10) by decide +kernel)
  have r4 := Lib.hid (show takeR ⟨#[97]⟩ 0 2 = (0, 11) by decide +kernel)
  have r5 := Lib.hid (show bytesR 0 9 = (⟨#[]⟩, 2) by decide +kernel)
  go_enter Tryd.func11, Tryd.ntmps11
  go_wp2_with fail
  refine (bytes_any a0 a1 a2 _ _ _ hE).mono ?_
  rintro e w1 ⟨rfl, hb1⟩
  rw [r1.out]
  have hE1 := hE.below hb1
  go_wp2_with fail
  refine (take_any a0 a1 a2 _ _ _ _ hE1 (by decide)).mono ?_
  rintro e w2 ⟨rfl, hb2⟩
  rw [r2.out]
  have hE2 := hE1.below hb2
  go_wp2_with fail
  refine (bytes_any a0 a1 a2 _ _ _ hE2).mono ?_
  rintro e w3 ⟨rfl, hb3⟩
  rw [r3.out]
  have hE3 := hE2.below hb3
  go_wp2_with fail
  refine (take_any a0 a1 a2 _ _ _ _ hE3 (by decide)).mono ?_
  rintro e w4 ⟨rfl, hb4⟩
  rw [r4.out]
  have hE4 := hE3.below hb4
  go_wp2_with fail
  refine (bytes_any a0 a1 a2 _ _ _ hE4).mono ?_
  rintro e w5 ⟨rfl, hb5⟩
  rw [r5.out]
  have hB : Below w.heap.size w w5 := (((hb1.trans (hb2.mono hb1.size)).trans (hb3.mono (Nat.le_trans hb1.size hb2.size))).trans (hb4.mono (Nat.le_trans hb1.size (Nat.le_trans hb2.size hb3.size)))).trans (hb5.mono (Nat.le_trans hb1.size (Nat.le_trans hb2.size (Nat.le_trans hb3.size hb4.size))))
  clear hb1 hb2 hb3 hb4 hb5 hE1 hE2 hE3 hE4
  go_wp2
  go_ret
  exact ⟨rfl, hB⟩
end Go.Proofs.YtjnfalgcfifciaaDoor
