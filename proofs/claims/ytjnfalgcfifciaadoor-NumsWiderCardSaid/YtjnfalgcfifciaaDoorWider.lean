/- In a width that is one greater a byte 0 stands ahead: the walk of NumsWider, for every number and width. -/
import Derived.Test.YtjnfalgcfifciaaDoorPure
import Derived.Test.YtjnfalgcfifciaaDoorShown
set_option linter.unusedVariables false
set_option linter.unusedSimpArgs false
namespace Go.Proofs.YtjnfalgcfifciaaDoor
open Go.RowKit

set_option maxRecDepth 100000 in
set_option maxHeartbeats 1000000 in
theorem wider_walk (a0 a1 a2 : Addr) (n k : Int) (w : World) (hE : Env a0 a1 a2 w) (_ : (Lit.int .i64 n).wf = true) (_ : (Lit.int .i64 k).wf = true) :
    Calls Tryd.prog 7 #[.int .i64 n, .int .i64 k] w fun e w' => e = .returned (.bool true) ∧ Below w.heap.size w w' := by
  rcases bytesR_cases n k with ⟨hk, hR⟩ | ⟨hk, _, hR⟩ | ⟨m, j, rfl, rfl, h1, h2, h3, h4, hR⟩
  · have R := Lib.hid hR
    clear hR hk
    go_enter Tryd.func7, Tryd.ntmps7
    go_wp2_with fail
    refine (shown_any a0 a1 a2 _ hE).mono ?_
    rintro e w1 ⟨rfl, hb1⟩
    go_wp2_with fail
    refine (bytes_any a0 a1 a2 _ _ _ (hE.below hb1)).mono ?_
    rintro e w2 ⟨rfl, hb2⟩
    rw [R.out]
    go_wp2
    go_ret
    exact ⟨rfl, hb1.trans (hb2.mono hb1.size)⟩
  · have R := Lib.hid hR
    clear hR hk
    go_enter Tryd.func7, Tryd.ntmps7
    go_wp2_with fail
    refine (shown_any a0 a1 a2 _ hE).mono ?_
    rintro e w1 ⟨rfl, hb1⟩
    go_wp2_with fail
    refine (bytes_any a0 a1 a2 _ _ _ (hE.below hb1)).mono ?_
    rintro e w2 ⟨rfl, hb2⟩
    rw [R.out]
    go_wp2
    go_ret
    exact ⟨rfl, hb1.trans (hb2.mono hb1.size)⟩
  · have R := Lib.hid hR
    have H4 := Lib.hid h4
    clear hR h4
    by_cases h7 : 7 < j
    · have b7 : decide (7 < j) = true := by simpa using h7
      generalize (⟨(beL m j).toArray⟩ : ByteArray) = q at *
      go_enter Tryd.func7, Tryd.ntmps7
      go_wp2_with fail
      refine (shown_any a0 a1 a2 _ hE).mono ?_
      rintro e w1 ⟨rfl, hb1⟩
      go_wp2_with fail
      refine (bytes_any a0 a1 a2 _ _ _ (hE.below hb1)).mono ?_
      rintro e w2 ⟨rfl, hb2⟩
      rw [R.out]
      go_wp2
      go_ret
      exact ⟨rfl, hb1.trans (hb2.mono hb1.size)⟩
    · have b7 : decide (7 < j) = false := by simpa using h7
      have R2 := Lib.hid (bytesR_of (m := m) (j := j + 1) (by omega) (by omega) h3 (Nat.lt_of_lt_of_le H4.out (Nat.pow_le_pow_right (by omega) (by omega))))
      rw [beL_wider j H4.out] at R2
      have hbl : (beL m j).length ≤ 8 := by rw [beL_length]; exact h2
      go_enter Tryd.func7, Tryd.ntmps7
      go_wp2_with fail
      refine (shown_any a0 a1 a2 _ hE).mono ?_
      rintro e w1 ⟨rfl, hb1⟩
      have hE1 := hE.below hb1
      go_wp2_with fail
      refine (bytes_any a0 a1 a2 _ _ _ hE1).mono ?_
      rintro e w2 ⟨rfl, hb2⟩
      have hE2 := hE1.below hb2
      rw [R.out]
      go_wp2_with fail
      refine (bytes_any a0 a1 a2 _ _ _ hE2).mono ?_
      rintro e w3 ⟨rfl, hb3⟩
      rw [show ((j : Int) + 1) = ((j + 1 : Nat) : Int) from rfl, R2.out]
      go_wp2
      go_ret
      exact ⟨by simp [ByteArray.toList_eq], (hb1.trans (hb2.mono hb1.size)).trans (hb3.mono (Nat.le_trans hb1.size hb2.size))⟩
end Go.Proofs.YtjnfalgcfifciaaDoor
