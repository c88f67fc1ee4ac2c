/- Contract of Cut of package nums: for every text, place and number (the part of NumsC that a seat without Rest has). -/
import Derived.Test.YtmbmolgkccjedaaGreatDoorM1
import Derived.Test.YtmbmolgkccjedaaGreatDoorClone
set_option linter.unusedVariables false
set_option linter.unusedSimpArgs false
namespace Go.Proofs.YtmbmolgkccjedaaGreatDoor
open Go.RowKit

set_option maxHeartbeats 400000 in
theorem cut_ok (s : ByteArray) (at0 n : Int) (w : World) (hs : s.size ≤ maxLen) (hl : s.size ≤ 281474976710656) (h : fitsB s at0 n) :
    Calls Tryz.prog 195 #[.string s, .int .i64 at0, .int .i64 n] w fun e w' => e = .returned (.tuple #[.string (s.extract at0.toNat (at0 + n).toNat), .int .i64 0]) ∧ Below w.heap.size w w' := by
  have H := Lib.hid h
  clear h
  have hx := extract_le s at0.toNat (at0 + n).toNat
  generalize hq : s.extract at0.toNat (at0 + n).toNat = q at *
  have HQ := Lib.hid hq
  clear hq
  go_enter Tryz.func195, Tryz.ntmps195
  go_wp2_with fail
  refine (piece_ok s at0 n _ hs H.out).mono ?_
  rintro e w1 ⟨rfl, hb1⟩
  rw [HQ.out]
  go_wp2_with fail
  refine (tells_ok q _).mono ?_
  rintro e w2 ⟨rfl, hb2⟩
  go_wp2_with fail
  refine (clone_any q _ (by omega)).mono ?_
  rintro e w3 ⟨rfl, hb3⟩
  go_wp2
  go_ret2
  exact ⟨rfl, (hb1.trans (hb2.mono hb1.size)).trans (hb3.mono (Nat.le_trans hb1.size hb2.size))⟩

set_option maxHeartbeats 400000 in
theorem cut_bad (a0 a1 a2 : Addr) (s : ByteArray) (at0 n : Int) (w : World) (hE : Env a0 a1 a2 w) (hs : s.size ≤ maxLen) (h : ¬ fitsB s at0 n) :
    Calls Tryz.prog 195 #[.string s, .int .i64 at0, .int .i64 n] w fun e w' => e = .returned (.tuple #[.string ⟨#[]⟩, .int .i64 11]) ∧ Below w.heap.size w w' := by
  have H := Lib.hid h
  clear h
  go_enter Tryz.func195, Tryz.ntmps195
  go_wp2_with fail
  refine (piece_bad a0 a1 a2 s at0 n _ hE hs H.out).mono ?_
  rintro e w1 ⟨rfl, hb1⟩
  go_wp2_with fail
  refine (tells_bad a0 a1 a2 a2 11 _ _ (hE.below hb1) (.inr (.inr ⟨rfl, rfl⟩))).mono ?_
  rintro e w2 ⟨rfl, hb2⟩
  go_wp2_with fail
  refine (clone_any _ _ (by decide)).mono ?_
  rintro e w3 ⟨rfl, hb3⟩
  go_wp2
  go_ret2
  exact ⟨rfl, (hb1.trans (hb2.mono hb1.size)).trans (hb3.mono (Nat.le_trans hb1.size hb2.size))⟩

theorem cut_any (a0 a1 a2 : Addr) (s : ByteArray) (at0 n : Int) (w : World) (hE : Env a0 a1 a2 w) (hl : s.size ≤ 281474976710656) :
    Calls Tryz.prog 195 #[.string s, .int .i64 at0, .int .i64 n] w fun e w' => e = .returned (.tuple #[.string (cutR s at0 n).1, .int .i64 (cutR s at0 n).2]) ∧ Below w.heap.size w w' := by
  have hs : s.size ≤ maxLen := by unfold maxLen; omega
  by_cases h : fitsB s at0 n
  · rw [cutR_ok h]; exact cut_ok s at0 n w hs hl h
  · rw [cutR_bad h]; exact cut_bad a0 a1 a2 s at0 n w hE hs h

end Go.Proofs.YtmbmolgkccjedaaGreatDoor
