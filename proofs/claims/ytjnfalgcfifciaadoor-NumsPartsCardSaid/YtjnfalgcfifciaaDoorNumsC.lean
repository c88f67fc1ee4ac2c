/- Contracts of Cut and Rest of package nums, and of the document's: for every text, place and number. -/
import Derived.Test.YtjnfalgcfifciaaDoorNumsB
import Derived.Test.YtjnfalgcfifciaaDoorClone
set_option linter.unusedVariables false
set_option linter.unusedSimpArgs false
namespace Go.Proofs.YtjnfalgcfifciaaDoor
open Go.RowKit

/-- What Cut answers: the bytes, and the error's number. -/
def cutR (s : ByteArray) (at0 n : Int) : ByteArray × Int := if fitsB s at0 n then (s.extract at0.toNat (at0 + n).toNat, 0) else (⟨#[]⟩, 11)
theorem cutR_ok {s : ByteArray} {at0 n : Int} (h : fitsB s at0 n) : cutR s at0 n = (s.extract at0.toNat (at0 + n).toNat, 0) := if_pos h
theorem cutR_bad {s : ByteArray} {at0 n : Int} (h : ¬ fitsB s at0 n) : cutR s at0 n = (⟨#[]⟩, 11) := if_neg h

theorem extract_le (s : ByteArray) (a b : Nat) : (s.extract a b).size ≤ s.size := by
  rw [ByteArray.size_extract]; omega

set_option maxHeartbeats 400000 in
theorem cut_ok (s : ByteArray) (at0 n : Int) (w : World) (hs : s.size ≤ maxLen) (hl : s.size ≤ 281474976710656) (h : fitsB s at0 n) :
    Calls Tryd.prog 19 #[.string s, .int .i64 at0, .int .i64 n] w fun e w' => e = .returned (.tuple #[.string (s.extract at0.toNat (at0 + n).toNat), .int .i64 0]) ∧ Below w.heap.size w w' := by
  have H := Lib.hid h
  clear h
  have hx := extract_le s at0.toNat (at0 + n).toNat
  generalize hq : s.extract at0.toNat (at0 + n).toNat = q at *
  have HQ := Lib.hid hq
  clear hq
  go_enter Tryd.func19, Tryd.ntmps19
  go_wp2_with fail
  refine (piece_ok s at0 n _ hs H.out).mono ?_
  rintro e w1 ⟨rfl, hb1⟩
  rw [HQ.out]
  go_wp2_with fail
  refine (tells_ok q _).mono ?_
  rintro e w2 ⟨rfl, hb2⟩
  go_wp2_with fail
  refine (clone_any q _ (by omega)).mono ?_
  rintro e w3 ⟨rfl, hb3⟩
  go_wp2
  go_ret2
  exact ⟨rfl, (hb1.trans (hb2.mono hb1.size)).trans (hb3.mono (Nat.le_trans hb1.size hb2.size))⟩

set_option maxHeartbeats 400000 in
theorem cut_bad (a0 a1 a2 : Addr) (s : ByteArray) (at0 n : Int) (w : World) (hE : Env a0 a1 a2 w) (hs : s.size ≤ maxLen) (h : ¬ fitsB s at0 n) :
    Calls Tryd.prog 19 #[.string s, .int .i64 at0, .int .i64 n] w fun e w' => e = .returned (.tuple #[.string ⟨#[]⟩, .int .i64 11]) ∧ Below w.heap.size w w' := by
  have H := Lib.hid h
  clear h
  go_enter Tryd.func19, Tryd.ntmps19
  go_wp2_with fail
  refine (piece_bad a0 a1 a2 s at0 n _ hE hs H.out).mono ?_
  rintro e w1 ⟨rfl, hb1⟩
  go_wp2_with fail
  refine (tells_bad a0 a1 a2 a2 11 _ _ (hE.below hb1) (.inr (.inr ⟨rfl, rfl⟩))).mono ?_
  rintro e w2 ⟨rfl, hb2⟩
  go_wp2_with fail
  refine (clone_any _ _ (by decide)).mono ?_
  rintro e w3 ⟨rfl, hb3⟩
  go_wp2
  go_ret2
  exact ⟨rfl, (hb1.trans (hb2.mono hb1.size)).trans (hb3.mono (Nat.le_trans hb1.size hb2.size))⟩

theorem cut_any (a0 a1 a2 : Addr) (s : ByteArray) (at0 n : Int) (w : World) (hE : Env a0 a1 a2 w) (hl : s.size ≤ 281474976710656) :
    Calls Tryd.prog 19 #[.string s, .int .i64 at0, .int .i64 n] w fun e w' => e = .returned (.tuple #[.string (cutR s at0 n).1, .int .i64 (cutR s at0 n).2]) ∧ Below w.heap.size w w' := by
  have hs : s.size ≤ maxLen := by unfold maxLen; omega
  by_cases h : fitsB s at0 n
  · rw [cutR_ok h]; exact cut_ok s at0 n w hs hl h
  · rw [cutR_bad h]; exact cut_bad a0 a1 a2 s at0 n w hE hs h

/-- What Rest answers. -/
def restR (s : ByteArray) (at0 : Int) : ByteArray × Int := cutR s at0 (s.size - at0)

set_option maxHeartbeats 400000 in
theorem rest_any (a0 a1 a2 : Addr) (s : ByteArray) (at0 : Int) (w : World) (hE : Env a0 a1 a2 w) (hl : s.size ≤ 281474976710656) (hat : at0 ≤ 9223372036854775807) :
    Calls Tryd.prog 21 #[.string s, .int .i64 at0] w fun e w' => e = .returned (.tuple #[.string (restR s at0).1, .int .i64 (restR s at0).2]) ∧ Below w.heap.size w w' := by
  by_cases h : 0 ≤ at0
  · unfold restR
    go_enter Tryd.func21, Tryd.ntmps21
    go_wp2_with fail
    refine (cut_any a0 a1 a2 s at0 _ _ hE hl).mono ?_
    rintro e w1 ⟨rfl, hb1⟩
    go_wp2
    go_ret2
    exact ⟨rfl, hb1⟩
  · have e0 : restR s at0 = (⟨#[]⟩, 11) := cutR_bad (fun hf => h hf.1)
    rw [e0]
    clear e0
    go_enter Tryd.func21, Tryd.ntmps21
    go_wp2_with fail
    refine (cut_bad a0 a1 a2 s at0 _ _ hE (by unfold maxLen; omega) (fun hf => by have := hf.1; omega)).mono ?_
    rintro e w1 ⟨rfl, hb1⟩
    go_wp2
    go_ret2
    exact ⟨rfl, hb1⟩

set_option maxHeartbeats 400000 in
theorem refCut_any (s : ByteArray) (at0 n : Int) (w : World) (hl : s.size ≤ 281474976710656) (hat : at0 ≤ 9223372036854775807) :
    Calls Tryd.prog 20 #[.string s, .int .i64 at0, .int .i64 n] w fun e w' => e = .returned (.tuple #[.string (cutR s at0 n).1, .int .i64 (cutR s at0 n).2]) ∧ w = w' := by
  by_cases h : fitsB s at0 n
  · rw [cutR_ok h]
    obtain ⟨h0, h1, h2⟩ := h
    have b0 : decide (at0 < 0) = false := by simp; omega
    have b1 : decide ((s.size : Int) < at0) = false := by simp; omega
    have b2 : decide (n < 0) = false := by simp; omega
    have b3 : decide ((s.size : Int) - at0 < n) = false := by simp; omega
    go_enter Tryd.func20, Tryd.ntmps20
    go_wp2
    go_ret2
    exact ⟨rfl, rfl⟩
  · rw [cutR_bad h]
    unfold fitsB at h
    by_cases h0 : at0 < 0
    · have b0 : decide (at0 < 0) = true := by simpa using h0
      clear h
      go_enter Tryd.func20, Tryd.ntmps20
      go_wp2
      go_ret2
      exact ⟨rfl, rfl⟩
    have b0 : decide (at0 < 0) = false := by simpa using h0
    by_cases h1 : (s.size : Int) < at0
    · have b1 : decide ((s.size : Int) < at0) = true := by simpa using h1
      clear h
      go_enter Tryd.func20, Tryd.ntmps20
      go_wp2
      go_ret2
      exact ⟨rfl, rfl⟩
    have b1 : decide ((s.size : Int) < at0) = false := by simpa using h1
    by_cases h2 : n < 0
    · have b2 : decide (n < 0) = true := by simpa using h2
      clear h
      go_enter Tryd.func20, Tryd.ntmps20
      go_wp2
      go_ret2
      exact ⟨rfl, rfl⟩
    have b2 : decide (n < 0) = false := by simpa using h2
    have h3 : (s.size : Int) - at0 < n := by omega
    have b3 : decide ((s.size : Int) - at0 < n) = true := by simpa using h3
    clear h
    go_enter Tryd.func20, Tryd.ntmps20
    go_wp2
    go_ret2
    exact ⟨rfl, rfl⟩

set_option maxHeartbeats 400000 in
theorem refRest_any (s : ByteArray) (at0 : Int) (w : World) (hl : s.size ≤ 281474976710656) (hat : at0 ≤ 9223372036854775807) :
    Calls Tryd.prog 22 #[.string s, .int .i64 at0] w fun e w' => e = .returned (.tuple #[.string (restR s at0).1, .int .i64 (restR s at0).2]) ∧ w = w' := by
  by_cases h : fitsB s at0 (s.size - at0)
  · have e0 : restR s at0 = (s.extract at0.toNat s.size, 0) := by unfold restR; rw [cutR_ok h]; congr 2; omega
    rw [e0]
    clear e0
    obtain ⟨h0, h1, h2⟩ := h
    have b0 : decide (at0 < 0) = false := by simp; omega
    have b1 : decide ((s.size : Int) < at0) = false := by simp; omega
    go_enter Tryd.func22, Tryd.ntmps22
    go_wp2
    go_ret2
    exact ⟨rfl, rfl⟩
  · have e0 : restR s at0 = (⟨#[]⟩, 11) := cutR_bad h
    rw [e0]
    clear e0
    unfold fitsB at h
    by_cases h0 : at0 < 0
    · have b0 : decide (at0 < 0) = true := by simpa using h0
      clear h
      go_enter Tryd.func22, Tryd.ntmps22
      go_wp2
      go_ret2
      exact ⟨rfl, rfl⟩
    have b0 : decide (at0 < 0) = false := by simpa using h0
    have h1 : (s.size : Int) < at0 := by omega
    have b1 : decide ((s.size : Int) < at0) = true := by simpa using h1
    clear h
    go_enter Tryd.func22, Tryd.ntmps22
    go_wp2
    go_ret2
    exact ⟨rfl, rfl⟩

set_option maxHeartbeats 400000 in
theorem lawCut_any (s : ByteArray) (w : World) (hs : s.size ≤ maxLen) :
    Calls Tryd.prog 12 #[.string s] w fun e w' => e = .returned (.string (s.extract 0 (min s.size 100))) ∧ w = w' := by
  unfold maxLen at hs
  go_enter Tryd.func12, Tryd.ntmps12
  go_wp2
  go_ret
  have e0 : (min (s.size : Int) 100).toNat = min s.size 100 := by omega
  exact ⟨congrArg (fun k => Ending.returned (.string (s.extract 0 k))) e0, rfl⟩
end Go.Proofs.YtjnfalgcfifciaaDoor
