/- Which texts have another sum, by what Of answers: plain mathematics. -/
import Derived.Test.YtpccbiopljmnlaaDoorCLaid
set_option linter.unusedVariables false
set_option linter.unusedSimpArgs false
namespace Go.Proofs.YtpccbiopljmnlaaDoor
open Go.RowKit

theorem beL_beq {a b n : Nat} (ha : a < 256 ^ n) (hb : b < 256 ^ n) : ((⟨(beL a n).toArray⟩ : ByteArray).toList == (⟨(beL b n).toArray⟩ : ByteArray).toList) = decide (a = b) := by
  rw [ByteArray.toList_eq, ByteArray.toList_eq, Bool.eq_iff_iff]
  simp only [beq_iff_eq, decide_eq_true_eq]
  constructor
  · intro h; exact beL_inj ha hb h
  · intro h; rw [h]

/-- Bytes beside each other that are others, no more than a sum has: another sum. -/
theorem of_burst {k : Int} (hk : k = 1 ∨ k = 2) {a b s t : List UInt8} (hl : s.length = t.length) (hs : (s.length : Int) ≤ sizR k) {q r : ByteArray} (hq : q.data.toList = a ++ (s ++ b)) (hr : r.data.toList = a ++ (t ++ b)) :
    ∃ u v, ofR k q = (u, 0) ∧ ofR k r = (v, 0) ∧ (u.toList == v.toList) = decide (s = t) ∧ (u.size : Int) = sizR k ∧ (v.size : Int) = sizR k := by
  rcases hk with rfl | rfl
  · have hs' : s.length ≤ 2 := by have : sizR 1 = 2 := rfl; omega
    refine ⟨_, _, rfl, rfl, ?_, ?_, ?_⟩
    · rw [beL_beq (sumT_lt 16 _ _) (sumT_lt 16 _ _), hq, hr]
      exact decide_eq_decide.2 (sumT_burst (w := 15) (by decide) (by decide) (by decide) hl (by omega))
    · show (((⟨(beL _ 2).toArray⟩ : ByteArray).size : Nat) : Int) = 2
      rw [show (⟨(beL (sumT 16 (tabL 33800) q.data.toList) 2).toArray⟩ : ByteArray).size = 2 from by show (beL _ 2).toArray.size = 2; simp [beL_length]]
      rfl
    · show (((⟨(beL _ 2).toArray⟩ : ByteArray).size : Nat) : Int) = 2
      rw [show (⟨(beL (sumT 16 (tabL 33800) r.data.toList) 2).toArray⟩ : ByteArray).size = 2 from by show (beL _ 2).toArray.size = 2; simp [beL_length]]
      rfl
  · have hs' : s.length ≤ 4 := by have : sizR 2 = 4 := rfl; omega
    refine ⟨_, _, rfl, rfl, ?_, ?_, ?_⟩
    · rw [beL_beq (sumT_lt 32 _ _) (sumT_lt 32 _ _), hq, hr]
      exact decide_eq_decide.2 (sumT_burst (w := 31) (by decide) (by decide) (by decide) hl (by omega))
    · show (((⟨(beL _ 4).toArray⟩ : ByteArray).size : Nat) : Int) = 4
      rw [show (⟨(beL (sumT 32 (tabL 2197175160) q.data.toList) 4).toArray⟩ : ByteArray).size = 4 from by show (beL _ 4).toArray.size = 4; simp [beL_length]]
      rfl
    · show (((⟨(beL _ 4).toArray⟩ : ByteArray).size : Nat) : Int) = 4
      rw [show (⟨(beL (sumT 32 (tabL 2197175160) r.data.toList) 4).toArray⟩ : ByteArray).size = 4 from by show (beL _ 4).toArray.size = 4; simp [beL_length]]
      rfl

theorem sizR_cases (k : Int) : sizR k = 0 ∧ k ≠ 1 ∧ k ≠ 2 ∨ (k = 1 ∨ k = 2) ∧ (sizR k = 2 ∨ sizR k = 4) := by
  by_cases h1 : k = 1
  · subst h1; exact .inr ⟨.inl rfl, .inl rfl⟩
  by_cases h2 : k = 2
  · subst h2; exact .inr ⟨.inr rfl, .inr rfl⟩
  · exact .inl ⟨sizR_no h1 h2, h1, h2⟩
theorem ext_list (q : ByteArray) (i j : Nat) : (q.extract i j).data.toList = (q.data.toList.drop i).take (j - i) := by
  rw [ByteArray.data_extract, Array.toList_extract, List.extract_eq_take_drop]
theorem app_list (a b : ByteArray) : (a ++ b).data.toList = a.data.toList ++ b.data.toList := by
  rw [ByteArray.data_append, Array.toList_append]
end Go.Proofs.YtpccbiopljmnlaaDoor
