/- Heads' answers, by their ways: plain facts for the walks of the statements of package 03. -/
import Derived.Test.YtnmdbmmkmbdiaaaDoorHShown
set_option linter.unusedVariables false
set_option linter.unusedSimpArgs false
namespace Go.Proofs.YtnmdbmmkmbdiaaaDoor
open Go.RowKit

theorem head_size (m n : Nat) : (⟨(headL m n).toArray⟩ : ByteArray).size = (headL m n).length := by show (headL m n).toArray.size = _; simp
theorem extract_list (l : List UInt8) (j : Nat) : ((⟨l.toArray⟩ : ByteArray).extract 0 j).toList = l.take j := by
  rw [ByteArray.toList_eq, ByteArray.data_extract]
  simp [Array.toList_extract, List.extract]
theorem bytes_list (l : List UInt8) : (⟨l.toArray⟩ : ByteArray).toList = l := by
  rw [ByteArray.toList_eq]

theorem hencR_of {M N : Nat} (hM : Maj M) (hN : N ≤ 281474976710655) : hencR (M : Int) (N : Int) = (⟨(headL M N).toArray⟩, 0) := by
  unfold hencR
  rw [majB_nat, decide_eq_true hM, if_pos rfl, rightB_yes hN, if_pos rfl, Int.toNat_natCast, Int.toNat_natCast]
theorem hencR_cases (m n : Int) : (∃ c, hencR m n = (⟨#[]⟩, c) ∧ (c != 0) = true ∧ (c == 0) = false) ∨ ∃ M N : Nat, m = M ∧ n = N ∧ Maj M ∧ N ≤ 281474976710655 ∧ hencR m n = (⟨(headL M N).toArray⟩, 0) := by
  cases hm : majB m with
  | false => exact .inl ⟨2, by unfold hencR; rw [hm]; rfl, rfl, rfl⟩
  | true =>
    cases hr : rightB n with
    | false => exact .inl ⟨10, by unfold hencR; rw [hm, hr]; rfl, rfl, rfl⟩
    | true =>
      obtain ⟨N, rfl, hN⟩ := rightB_nat hr
      obtain ⟨h0, h4, hM⟩ := majB_bounds hm
      obtain ⟨M, rfl⟩ := Int.eq_ofNat_of_zero_le h0
      rw [Int.toNat_natCast] at hM
      exact .inr ⟨M, N, rfl, rfl, hM, hN, hencR_of hM hN⟩
theorem hencR_sz (m n : Int) : (hencR m n).1.size ≤ 9 := by
  rcases hencR_cases m n with ⟨c, h, _⟩ | ⟨M, N, _, _, _, _, h⟩
  · rw [h]; exact Nat.zero_le 9
  · rw [h]
    show (⟨(headL M N).toArray⟩ : ByteArray).size ≤ 9
    rw [head_size, headL_length]
    have := wid_le N
    omega
theorem hsizeR_of {N : Nat} (hN : N ≤ 281474976710655) : hsizeR (N : Int) = (((1 + wid N : Nat) : Int), 0) := by
  unfold hsizeR
  rw [rightB_yes hN, if_pos rfl, Int.toNat_natCast]
theorem hsizeR_cases (n : Int) : hsizeR n = (0, 10) ∨ ∃ N : Nat, n = N ∧ N ≤ 281474976710655 ∧ hsizeR n = (((1 + wid N : Nat) : Int), 0) := by
  cases hr : rightB n with
  | false => exact .inl (by unfold hsizeR; rw [hr]; rfl)
  | true =>
    obtain ⟨N, rfl, hN⟩ := rightB_nat hr
    exact .inr ⟨N, rfl, hN, hsizeR_of hN⟩

theorem hdecR_cases (q : ByteArray) (at0 : Int) : (∃ e, hdecR q at0 = (0, 0, 0, e) ∧ (e = 11 ∨ e = 20 ∨ e = 10)) ∨ ∃ i M N k : Nat, at0 = i ∧ i < q.size ∧ hdL (q.data.toList.drop i) = .ok (M, N, k) ∧ hdecR q at0 = ((M : Int), (N : Int), (i : Int) + (k : Int), 0) := by
  by_cases h : at0 < 0 ∨ (q.size : Int) ≤ at0
  · exact .inl ⟨11, hdecR_out h, .inl rfl⟩
  · obtain ⟨i, rfl⟩ := Int.eq_ofNat_of_zero_le (show 0 ≤ at0 by omega)
    have hi : i < q.size := by omega
    cases hd : hdL (q.data.toList.drop i) with
    | error e => exact .inl ⟨e, hdecR_err hi hd, hdL_err hd⟩
    | ok x =>
      obtain ⟨M, N, k⟩ := x
      exact .inr ⟨i, M, N, k, rfl, hi, hd, hdecR_ok hi hd⟩

theorem hdecR_head (q r : ByteArray) {M N : Nat} (hM : Maj M) (hN : N ≤ 281474976710655) : hdecR (q ++ ⟨(headL M N).toArray⟩ ++ r) (q.size : Int) = ((M : Int), (N : Int), (q.size : Int) + ((headL M N).length : Int), 0) := by
  have hl := headL_length M N
  refine hdecR_ok ?_ ?_
  · rw [ByteArray.size_append, ByteArray.size_append, head_size]
    omega
  · have e : (q ++ ⟨(headL M N).toArray⟩ ++ r).data.toList.drop q.size = headL M N ++ r.data.toList := by
      rw [ByteArray.data_append, ByteArray.data_append, Array.toList_append, Array.toList_append, List.append_assoc, List.drop_append_of_le_length (by rw [Array.length_toList]; exact Nat.le_refl _), List.drop_of_length_le (by rw [Array.length_toList]; exact Nat.le_refl _)]
      simp
    rw [e]
    exact hdL_head hM hN _

theorem tag_mono {n m : Nat} (h : n ≤ m) : tagN n ≤ tagN m := by
  rcases wid_cases n with ⟨h1, _, h2⟩ | ⟨h0, h1, _, h2⟩ | ⟨h0, h1, _, h2⟩ | ⟨h0, h1, _, h2⟩ | ⟨h0, _, h2⟩ <;> rcases wid_cases m with ⟨k1, _, k2⟩ | ⟨k0, k1, _, k2⟩ | ⟨k0, k1, _, k2⟩ | ⟨k0, k1, _, k2⟩ | ⟨k0, _, k2⟩ <;> omega

theorem less_cons (a b : UInt8) (x y : List UInt8) : Op.bytesLess (a :: x) (b :: y) = (decide (a.toNat < b.toNat) || (decide (a.toNat = b.toNat) && Op.bytesLess x y)) := by
  have e1 : (a < b) = (a.toNat < b.toNat) := by rw [UInt8.lt_iff_toNat_lt]
  have e2 : (a == b) = decide (a.toNat = b.toNat) := by
    rw [Bool.eq_iff_iff]
    simp [← UInt8.toNat_inj]
  simp only [Op.bytesLess]
  rw [e2]
  simp only [e1]

/-- Of two heads of one major the bytes of the lesser number come first. -/
theorem head_less {M n m : Nat} (hM : Maj M) (hn : n ≤ 281474976710655) (hm : m ≤ 281474976710655) : Op.bytesLess (headL M n) (headL M m) = decide (n < m) := by
  have hM4 : M ≤ 4 := by unfold Maj at hM; omega
  have tn := tag_le n
  have tm := tag_le m
  have en : (UInt8.ofNat (32 * M + tagN n)).toNat = 32 * M + tagN n := by simp; omega
  have em : (UInt8.ofNat (32 * M + tagN m)).toNat = 32 * M + tagN m := by simp; omega
  unfold headL
  rw [less_cons, en, em]
  by_cases ht : tagN n = tagN m
  · have hw : wid n = wid m := by rw [← widT_tag, ← widT_tag, ht]
    have l1 : decide (32 * M + tagN n < 32 * M + tagN m) = false := decide_eq_false (by omega)
    have l2 : decide (32 * M + tagN n = 32 * M + tagN m) = true := decide_eq_true (by omega)
    rw [l1, l2, Bool.false_or, Bool.true_and, hw]
    by_cases h24 : n < 24
    · have hm24 : m < 24 := by
        rw [tag_small h24] at ht
        rcases wid_cases m with ⟨k1, _, k2⟩ | ⟨k0, k1, _, k2⟩ | ⟨k0, k1, _, k2⟩ | ⟨k0, k1, _, k2⟩ | ⟨k0, _, k2⟩ <;> omega
      rw [tag_small h24, tag_small hm24] at ht
      subst ht
      rw [decide_eq_false (Nat.lt_irrefl _)]
      rw [show wid n = 0 from (by unfold wid; exact if_pos h24)]
      rfl
    · have hm24 : ¬ m < 24 := fun h => by
        rw [tag_small h] at ht
        rcases wid_cases n with ⟨k1, _, k2⟩ | ⟨k0, k1, _, k2⟩ | ⟨k0, k1, _, k2⟩ | ⟨k0, k1, _, k2⟩ | ⟨k0, _, k2⟩ <;> omega
      have r1 := wid_room hn (Nat.le_of_not_lt h24)
      rw [hw] at r1
      exact bytesLess_beL r1 (wid_room hm (Nat.le_of_not_lt hm24))
  · have l2 : decide (32 * M + tagN n = 32 * M + tagN m) = false := decide_eq_false (by omega)
    rw [l2, Bool.false_and, Bool.or_false, decide_eq_decide]
    constructor
    · intro h
      refine Nat.lt_of_not_le fun h' => ?_
      have := tag_mono h'
      omega
    · intro h
      have := tag_mono (Nat.le_of_lt h)
      omega
theorem head_eq {M n m : Nat} (hM : Maj M) (hn : n ≤ 281474976710655) (hm : m ≤ 281474976710655) : (headL M n == headL M m) = ((n : Int) == (m : Int)) := by
  rw [Bool.eq_iff_iff]
  simp only [beq_iff_eq]
  constructor
  · intro h
    have h1 := hdL_head hM hn []
    have h2 := hdL_head hM hm []
    rw [h, h2] at h1
    simp only [Except.ok.injEq, Prod.mk.injEq] at h1
    omega
  · intro h
    have : n = m := by omega
    rw [this]
end Go.Proofs.YtnmdbmmkmbdiaaaDoor
