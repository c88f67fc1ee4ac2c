/- Heads' answers, by their ways: plain facts. -/
import Derived.Test.YtljfgchmogdljaaGreatDoorHDec
set_option linter.unusedVariables false
set_option linter.unusedSimpArgs false
namespace Go.Proofs.YtljfgchmogdljaaGreatDoor
open Go.RowKit

theorem head_size (m n : Nat) : (⟨(headL m n).toArray⟩ : ByteArray).size = (headL m n).length := by show (headL m n).toArray.size = _; simp
theorem extract_list (l : List UInt8) (j : Nat) : ((⟨l.toArray⟩ : ByteArray).extract 0 j).toList = l.take j := by
  rw [ByteArray.toList_eq, ByteArray.data_extract]
  simp [Array.toList_extract, List.extract]
theorem bytes_list (l : List UInt8) : (⟨l.toArray⟩ : ByteArray).toList = l := by
  rw [ByteArray.toList_eq]

theorem hencR_of {M N : Nat} (hM : Maj M) (hN : N ≤ 281474976710655) : hencR (M : Int) (N : Int) = (⟨(headL M N).toArray⟩, 0) := by
  unfold hencR
  rw [majB_nat, decide_eq_true hM, if_pos rfl, rightB_yes hN, if_pos rfl, Int.toNat_natCast, Int.toNat_natCast]
theorem hencR_cases (m n : Int) : (∃ c, hencR m n = (⟨#[]⟩, c) ∧ (c != 0) = true ∧ (c == 0) = false) ∨ ∃ M N : Nat, m = M ∧ n = N ∧ Maj M ∧ N ≤ 281474976710655 ∧ hencR m n = (⟨(headL M N).toArray⟩, 0) := by
  cases hm : majB m with
  | false => exact .inl ⟨2, by unfold hencR; rw [hm]; rfl, rfl, rfl⟩
  | true =>
    cases hr : rightB n with
    | false => exact .inl ⟨10, by unfold hencR; rw [hm, hr]; rfl, rfl, rfl⟩
    | true =>
      obtain ⟨N, rfl, hN⟩ := rightB_nat hr
      obtain ⟨h0, h4, hM⟩ := majB_bounds hm
      obtain ⟨M, rfl⟩ := Int.eq_ofNat_of_zero_le h0
      rw [Int.toNat_natCast] at hM
      exact .inr ⟨M, N, rfl, rfl, hM, hN, hencR_of hM hN⟩
theorem hencR_sz (m n : Int) : (hencR m n).1.size ≤ 9 := by
  rcases hencR_cases m n with ⟨c, h, _⟩ | ⟨M, N, _, _, _, _, h⟩
  · rw [h]; exact Nat.zero_le 9
  · rw [h]
    show (⟨(headL M N).toArray⟩ : ByteArray).size ≤ 9
    rw [head_size, headL_length]
    have := wid_le N
    omega
theorem hdecR_cases (q : ByteArray) (at0 : Int) : (∃ e, hdecR q at0 = (0, 0, 0, e) ∧ (e = 11 ∨ e = 20 ∨ e = 10)) ∨ ∃ i M N k : Nat, at0 = i ∧ i < q.size ∧ hdL (q.data.toList.drop i) = .ok (M, N, k) ∧ hdecR q at0 = ((M : Int), (N : Int), (i : Int) + (k : Int), 0) := by
  by_cases h : at0 < 0 ∨ (q.size : Int) ≤ at0
  · exact .inl ⟨11, hdecR_out h, .inl rfl⟩
  · obtain ⟨i, rfl⟩ := Int.eq_ofNat_of_zero_le (show 0 ≤ at0 by omega)
    have hi : i < q.size := by omega
    cases hd : hdL (q.data.toList.drop i) with
    | error e => exact .inl ⟨e, hdecR_err hi hd, hdL_err hd⟩
    | ok x =>
      obtain ⟨M, N, k⟩ := x
      exact .inr ⟨i, M, N, k, rfl, hi, hd, hdecR_ok hi hd⟩

theorem hdecR_head (q r : ByteArray) {M N : Nat} (hM : Maj M) (hN : N ≤ 281474976710655) : hdecR (q ++ ⟨(headL M N).toArray⟩ ++ r) (q.size : Int) = ((M : Int), (N : Int), (q.size : Int) + ((headL M N).length : Int), 0) := by
  have hl := headL_length M N
  refine hdecR_ok ?_ ?_
  · rw [ByteArray.size_append, ByteArray.size_append, head_size]
    omega
  · have e : (q ++ ⟨(headL M N).toArray⟩ ++ r).data.toList.drop q.size = headL M N ++ r.data.toList := by
      rw [ByteArray.data_append, ByteArray.data_append, Array.toList_append, Array.toList_append, List.append_assoc, List.drop_append_of_le_length (by rw [Array.length_toList]; exact Nat.le_refl _), List.drop_of_length_le (by rw [Array.length_toList]; exact Nat.le_refl _)]
      simp
    rw [e]
    exact hdL_head hM hN _

end Go.Proofs.YtljfgchmogdljaaGreatDoor
