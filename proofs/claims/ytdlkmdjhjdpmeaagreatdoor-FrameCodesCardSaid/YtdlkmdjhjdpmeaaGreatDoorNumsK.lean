/- What Cut of package nums and of the document answers, as a function; the document's Cut. -/
import Derived.Test.YtdlkmdjhjdpmeaaGreatDoorNumsB
set_option linter.unusedVariables false
set_option linter.unusedSimpArgs false
namespace Go.Proofs.YtdlkmdjhjdpmeaaGreatDoor
open Go.RowKit

/-- What Cut answers: the bytes, and the error's number. -/
def cutR (s : ByteArray) (at0 n : Int) : ByteArray × Int := if fitsB s at0 n then (s.extract at0.toNat (at0 + n).toNat, 0) else (⟨#[]⟩, 11)
theorem cutR_ok {s : ByteArray} {at0 n : Int} (h : fitsB s at0 n) : cutR s at0 n = (s.extract at0.toNat (at0 + n).toNat, 0) := if_pos h
theorem cutR_bad {s : ByteArray} {at0 n : Int} (h : ¬ fitsB s at0 n) : cutR s at0 n = (⟨#[]⟩, 11) := if_neg h

theorem extract_le (s : ByteArray) (a b : Nat) : (s.extract a b).size ≤ s.size := by
  rw [ByteArray.size_extract]; omega

set_option maxHeartbeats 400000 in
theorem refCut_any (s : ByteArray) (at0 n : Int) (w : World) (hl : s.size ≤ 281474976710656) (hat : at0 ≤ 9223372036854775807) :
    Calls Tryz.prog 31 #[.string s, .int .i64 at0, .int .i64 n] w fun e w' => e = .returned (.tuple #[.string (cutR s at0 n).1, .int .i64 (cutR s at0 n).2]) ∧ w = w' := by
  by_cases h : fitsB s at0 n
  · rw [cutR_ok h]
    obtain ⟨h0, h1, h2⟩ := h
    have b0 : decide (at0 < 0) = false := by simp; omega
    have b1 : decide ((s.size : Int) < at0) = false := by simp; omega
    have b2 : decide (n < 0) = false := by simp; omega
    have b3 : decide ((s.size : Int) - at0 < n) = false := by simp; omega
    go_enter Tryz.func31, Tryz.ntmps31
    go_wp2
    go_ret2
    exact ⟨rfl, rfl⟩
  · rw [cutR_bad h]
    unfold fitsB at h
    by_cases h0 : at0 < 0
    · have b0 : decide (at0 < 0) = true := by simpa using h0
      clear h
      go_enter Tryz.func31, Tryz.ntmps31
      go_wp2
      go_ret2
      exact ⟨rfl, rfl⟩
    have b0 : decide (at0 < 0) = false := by simpa using h0
    by_cases h1 : (s.size : Int) < at0
    · have b1 : decide ((s.size : Int) < at0) = true := by simpa using h1
      clear h
      go_enter Tryz.func31, Tryz.ntmps31
      go_wp2
      go_ret2
      exact ⟨rfl, rfl⟩
    have b1 : decide ((s.size : Int) < at0) = false := by simpa using h1
    by_cases h2 : n < 0
    · have b2 : decide (n < 0) = true := by simpa using h2
      clear h
      go_enter Tryz.func31, Tryz.ntmps31
      go_wp2
      go_ret2
      exact ⟨rfl, rfl⟩
    have b2 : decide (n < 0) = false := by simpa using h2
    have h3 : (s.size : Int) - at0 < n := by omega
    have b3 : decide ((s.size : Int) - at0 < n) = true := by simpa using h3
    clear h
    go_enter Tryz.func31, Tryz.ntmps31
    go_wp2
    go_ret2
    exact ⟨rfl, rfl⟩
end Go.Proofs.YtdlkmdjhjdpmeaaGreatDoor
