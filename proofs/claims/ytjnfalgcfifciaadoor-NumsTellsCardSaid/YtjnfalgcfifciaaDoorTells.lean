/- Which numbers may be, their bytes, numbers of bytes are the document's: the walk of NumsTells. -/
import Derived.Test.YtjnfalgcfifciaaDoorRefs
import Derived.Test.YtjnfalgcfifciaaDoorShown
import Derived.Test.YtjnfalgcfifciaaDoorParts
set_option linter.unusedVariables false
set_option linter.unusedSimpArgs false
namespace Go.Proofs.YtjnfalgcfifciaaDoor
open Go.RowKit

set_option maxRecDepth 100000 in
set_option maxHeartbeats 1000000 in
theorem tells_walk (a0 a1 a2 : Addr) (n k : Int) (s : ByteArray) (at0 : Int) (w : World) (hE : Env a0 a1 a2 w) (_ : (Lit.int .i64 n).wf = true) (_ : (Lit.int .i64 k).wf = true) (hs : s.size ≤ maxLen) (hw : (Lit.int .i64 at0).wf = true) :
    Calls Tryd.prog 3 #[.int .i64 n, .int .i64 k, .string s, .int .i64 at0] w fun e w' => e = .returned (.bool true) ∧ Below w.heap.size w w' := by
  have hql := cut_le s
  have hat := (bounds_i64 hw).2
  clear hw
  generalize hq : s.extract 0 (min s.size 100) = q at *
  generalize hR : bytesR n k = R at *
  generalize hS : takeR q at0 k = S at *
  obtain ⟨x, c⟩ := R
  obtain ⟨y, d⟩ := S
  have Q := Lib.hid hq
  have HR := Lib.hid hR
  have HS := Lib.hid hS
  clear hq hR hS
  go_enter Tryd.func3, Tryd.ntmps3
  go_wp2_with fail
  refine (shown_any a0 a1 a2 _ hE).mono ?_
  rintro e w1 ⟨rfl, hb1⟩
  have hE1 := hE.below hb1
  go_wp2_with fail
  refine (lawCut_any s _ hs).mono ?_
  rintro e w' ⟨rfl, rfl⟩
  rw [Q.out]
  go_wp2_with fail
  refine (bytes_any a0 a1 a2 n k _ hE1).mono ?_
  rintro e w2 ⟨rfl, hb2⟩
  have hE2 := hE1.below hb2
  rw [HR.out]
  go_wp2_with fail
  refine (refBytes_any n k _).mono ?_
  rintro e w3 ⟨rfl, hb3⟩
  have hE3 := hE2.below hb3
  rw [HR.out]
  go_wp2_with fail
  refine (take_any a0 a1 a2 q at0 k _ hE3 (by unfold maxLen; omega)).mono ?_
  rintro e w4 ⟨rfl, hb4⟩
  rw [HS.out]
  go_wp2_with fail
  refine (refTake_any q at0 k _ (by omega) hat).mono ?_
  rintro e w' ⟨rfl, rfl⟩
  rw [HS.out]
  have hB : Below w.heap.size w w4 := ((hb1.trans (hb2.mono hb1.size)).trans (hb3.mono (Nat.le_trans hb1.size hb2.size))).trans (hb4.mono (Nat.le_trans hb1.size (Nat.le_trans hb2.size hb3.size)))
  clear hb1 hb2 hb3 hb4 hE1 hE2 hE3
  go_wp2_with (first | (go_at_call 17; refine (right_any _ _).mono ?_; rintro e w' ⟨rfl, rfl⟩) | (go_at_call 18; refine (refRight_any _ _).mono ?_; rintro e w' ⟨rfl, rfl⟩))
  go_ret
  exact ⟨by simp, hB⟩
end Go.Proofs.YtjnfalgcfifciaaDoor
