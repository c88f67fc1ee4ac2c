/- What Right of package eid tells, in plain words: the names that are right. -/
import Derived.Test.YtmpokhdljlnllaaDoorEPure
import Derived.Test.YtmpokhdljlnllaaDoorERig
set_option linter.unusedVariables false
set_option linter.unusedSimpArgs false
namespace Go.Proofs.YtmpokhdljlnllaaDoor
open Go.RowKit

/-- A name, of its value's parts. -/
def nmO (k : Int) (nd sv : ByteArray) (a b : Int) : Nm := ⟨k, nd.data.toList, sv.data.toList, a, b⟩

theorem u8_eq {c : UInt8} {d : UInt8} : (c = d) ↔ c.toNat = d.toNat := UInt8.toNat_inj.symm
theorem pln_nd (c : UInt8) : plnB [45, 46] c = prtB false c := by
  have h45 : (c = 45) ↔ c.toNat = 45 := u8_eq
  have h46 : (c = 46) ↔ c.toNat = 46 := u8_eq
  rw [Bool.eq_iff_iff]
  unfold plnB plnZ hasZ prtB
  simp only [Bool.or_eq_true, Bool.and_eq_true, decide_eq_true_eq, List.contains_iff_mem, List.mem_cons, List.not_mem_nil, or_false, h45, h46, Bool.false_eq_true, false_and]
  omega
theorem pln_sv (c : UInt8) : plnB [45, 46, 47] c = prtB true c := by
  have h45 : (c = 45) ↔ c.toNat = 45 := u8_eq
  have h46 : (c = 46) ↔ c.toNat = 46 := u8_eq
  have h47 : (c = 47) ↔ c.toNat = 47 := u8_eq
  rw [Bool.eq_iff_iff]
  unfold plnB plnZ hasZ prtB
  simp only [Bool.or_eq_true, Bool.and_eq_true, decide_eq_true_eq, List.contains_iff_mem, List.mem_cons, List.not_mem_nil, or_false, h45, h46, h47, true_and]
  omega
theorem size_len (s : ByteArray) : s.data.toList.length = s.size := by simp
theorem isE_data (s : ByteArray) : s.toList.isEmpty = s.data.toList.isEmpty := by rw [ByteArray.toList_eq]
theorem ndR_part (s : ByteArray) : ndR s = (!s.data.toList.isEmpty && partB false s.data.toList) := by
  unfold ndR partB ndOk
  rw [isE_data, size_len]
  have e1 : (s.data.toList.all (plnB [45, 46])) = s.data.toList.all (prtB false) := by congr 1; funext c; exact pln_nd c
  have e2 : decide ((s.size : Int) ≤ 20) = decide (s.size ≤ 20) := by simp; omega
  rw [e1, e2, Bool.and_assoc, Bool.and_comm (decide _)]
theorem svR_part (s : ByteArray) : svR s = partB true s.data.toList := by
  unfold svR partB svOk
  rw [size_len]
  have e1 : (s.data.toList.all (plnB [45, 46, 47])) = s.data.toList.all (prtB true) := by congr 1; funext c; exact pln_sv c
  have e2 : decide ((s.size : Int) ≤ 20) = decide (s.size ≤ 20) := by simp; omega
  rw [e1, e2, Bool.and_comm]
theorem emp_iff (s : ByteArray) : s = ⟨#[]⟩ ↔ s.data.toList.isEmpty = true := by
  rw [List.isEmpty_iff]
  constructor
  · rintro rfl; rfl
  · intro h
    apply ByteArray.ext
    exact Array.toList_inj.1 h
theorem rgt0 (nd sv : ByteArray) (a b : Int) : (nmE 0 ⟨#[]⟩ ⟨#[]⟩ 0 0 0 nd sv a b && allP psN) = nmR (nmO 0 nd sv a b) := by
  rw [Bool.eq_iff_iff, Bool.and_eq_true, nmE_iff]
  unfold nmR nmO
  simp only [if_true, Bool.and_eq_true, decide_eq_true_eq, ← emp_iff]
  constructor
  · rintro ⟨⟨_, h1, h2, h3, h4⟩, _⟩
    exact ⟨⟨⟨h1.symm, h2.symm⟩, h3.symm⟩, h4.symm⟩
  · rintro ⟨⟨⟨h1, h2⟩, h3⟩, h4⟩
    exact ⟨⟨trivial, h1.symm, h2.symm, h3.symm, h4.symm⟩, rfl⟩
theorem rgt1 (nd sv : ByteArray) (a b : Int) : (nmE 1 nd sv 0 0 1 nd sv a b && allP (psD nd sv)) = nmR (nmO 1 nd sv a b) := by
  rw [Bool.eq_iff_iff, Bool.and_eq_true, nmE_iff]
  unfold nmR nmO allP psD
  rw [if_neg (show ¬ (1 : Int) = 0 by decide), if_pos rfl]
  simp only [List.all_cons, List.all_nil, Bool.and_true, Bool.true_and, ndR_part, svR_part, Bool.and_eq_true, decide_eq_true_eq]
  constructor
  · rintro ⟨⟨_, _, _, h3, h4⟩, h5, h6⟩
    exact ⟨⟨⟨h5, h6⟩, h3.symm⟩, h4.symm⟩
  · rintro ⟨⟨⟨h5, h6⟩, h3⟩, h4⟩
    exact ⟨⟨trivial, trivial, trivial, h3.symm, h4.symm⟩, h5, h6⟩
theorem rgt2 (nd sv : ByteArray) (a b : Int) : (nmE 2 ⟨#[]⟩ ⟨#[]⟩ a b 2 nd sv a b && allP (psI a b)) = nmR (nmO 2 nd sv a b) := by
  rw [Bool.eq_iff_iff, Bool.and_eq_true, nmE_iff]
  unfold nmR nmO allP psI aR bR
  rw [if_neg (show ¬ (2 : Int) = 0 by decide), if_neg (show ¬ (2 : Int) = 1 by decide), if_pos rfl]
  simp only [List.all_cons, List.all_nil, Bool.and_true, Bool.true_and, Bool.and_eq_true, decide_eq_true_eq, ← emp_iff]
  constructor
  · rintro ⟨⟨_, h1, h2, _, _⟩, h3, h4⟩
    exact ⟨⟨⟨⟨⟨h1.symm, h2.symm⟩, h3.1⟩, h3.2⟩, h4.1⟩, h4.2⟩
  · rintro ⟨⟨⟨⟨⟨h1, h2⟩, h3⟩, h4⟩, h5⟩, h6⟩
    exact ⟨⟨trivial, h1.symm, h2.symm, trivial, trivial⟩, ⟨h3, h4⟩, h5, h6⟩
theorem rgtN {k : Int} (h0 : k ≠ 0) (h1 : k ≠ 1) (h2 : k ≠ 2) (nd sv : ByteArray) (a b : Int) : nmR (nmO k nd sv a b) = false := by
  unfold nmR nmO
  rw [if_neg h0, if_neg h1, if_neg h2]
end Go.Proofs.YtmpokhdljlnllaaDoor
