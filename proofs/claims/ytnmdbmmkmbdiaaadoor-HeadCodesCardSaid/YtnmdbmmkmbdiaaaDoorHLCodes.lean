/- Heads' bytes, and heads of bytes, are the document's: the walk of HeadCodes. -/
import Derived.Test.YtnmdbmmkmbdiaaaDoorHRefD
import Derived.Test.YtnmdbmmkmbdiaaaDoorHShown
set_option linter.unusedVariables false
set_option linter.unusedSimpArgs false
namespace Go.Proofs.YtnmdbmmkmbdiaaaDoor
open Go.RowKit

set_option maxRecDepth 100000 in
set_option maxHeartbeats 2000000 in
theorem codes_walk (m n : Int) (s : ByteArray) (at0 : Int) (w : World) (hH : HeadOK w) (_ : (Lit.int .i64 m).wf = true) (_ : (Lit.int .i64 n).wf = true) (hs : s.size ≤ maxLen) (_ : (Lit.int .i64 at0).wf = true) :
    Calls Tryd.prog 3 #[.int .i64 m, .int .i64 n, .string s, .int .i64 at0] w fun e w' => e = .returned (.bool true) ∧ Below w.heap.size w w' := by
  have hql := cut_le s
  generalize hq : s.extract 0 (min s.size 100) = q at *
  generalize hR : hencR m n = R at *
  generalize hS : hdecR q at0 = S at *
  generalize hT : hsizeR n = T at *
  obtain ⟨x, c⟩ := R
  obtain ⟨y0, y1, y2, d⟩ := S
  obtain ⟨z, f⟩ := T
  have Q := Lib.hid hq
  have HR := Lib.hid hR
  have HS := Lib.hid hS
  have HT := Lib.hid hT
  clear hq hR hS hT
  go_enter Tryd.func3, Tryd.ntmps3
  go_wp2_with fail
  refine (shown_any _ hH).mono ?_
  rintro e w1 ⟨rfl, hb1⟩
  have hH1 := hH.below hb1
  go_wp2_with fail
  refine (lawCut_any s _ hs).mono ?_
  rintro e w' ⟨rfl, rfl⟩
  rw [Q.out]
  go_wp2_with fail
  refine (hencode_any m n _ hH1).mono ?_
  rintro e w2 ⟨rfl, hb2⟩
  replace hb2 := hb1.trans (hb2.mono hb1.size)
  rw [HR.out]
  go_wp2_with fail
  refine (rencode_any m n _).mono ?_
  rintro e w3 ⟨rfl, hb3⟩
  replace hb3 := hb2.trans (hb3.mono hb2.size)
  rw [HR.out]
  go_wp2_with fail
  refine (hdecode_any q at0 _ (hH.below hb3) (by omega)).mono ?_
  rintro e w4 ⟨rfl, hb4⟩
  replace hb4 := hb3.trans (hb4.mono hb3.size)
  rw [HS.out]
  go_wp2_with fail
  refine (rdecode_any q at0 _ (by omega)).mono ?_
  rintro e w5 ⟨rfl, hb5⟩
  replace hb5 := hb4.trans (hb5.mono hb4.size)
  rw [HS.out]
  go_wp2_with fail
  refine (hsize_any n _ (hH.below hb5)).mono ?_
  rintro e w6 ⟨rfl, hb6⟩
  replace hb6 := hb5.trans (hb6.mono hb5.size)
  rw [HT.out]
  go_wp2_with fail
  refine (rsize_any n _).mono ?_
  rintro e w7 ⟨rfl, hb7⟩
  replace hb7 := hb6.trans (hb7.mono hb6.size)
  rw [HT.out]
  clear hb1 hb2 hb3 hb4 hb5 hb6 hH1
  go_wp2
  go_ret
  exact ⟨by simp, hb7⟩
end Go.Proofs.YtnmdbmmkmbdiaaaDoor
