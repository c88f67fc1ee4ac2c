/- Facts on numbers and their bytes, without any program: a number is told from its bytes, bytes are those of their number, a wider row has a byte 0 ahead. -/
import Derived.Test.YtdlkmdjhjdpmeaaGreatDoorNumsE
set_option linter.unusedVariables false
set_option linter.unusedSimpArgs false
namespace Go.Proofs.YtdlkmdjhjdpmeaaGreatDoor
open Go.RowKit

theorem byteAt_lt (n k j : Nat) : byteAt n k j < 256 := Nat.mod_lt _ (by omega)
theorem beL_zero (n : Nat) : beL n 0 = [] := rfl

theorem beL_succ (n k : Nat) : beL n (k + 1) = beL (n / 256) k ++ [UInt8.ofNat (n % 256)] := by
  unfold beL
  rw [List.range_succ, List.map_append]
  congr 1
  · apply List.map_congr_left
    intro j hj
    rw [List.mem_range] at hj
    unfold byteAt
    have : k + 1 - 1 - j = (k - 1 - j) + 1 := by omega
    rw [this, Nat.pow_succ, Nat.mul_comm, ← Nat.div_div_eq_div_mul]
  · simp [byteAt]

theorem valL_beL (k : Nat) : ∀ n : Nat, valL (beL n k) = n % 256 ^ k := by
  induction k with
  | zero => intro n; simp [beL, valL, Nat.mod_one]
  | succ k ih =>
    intro n
    rw [beL_succ, valL_snoc, ih]
    have h1 : (UInt8.ofNat (n % 256)).toNat = n % 256 := by simp
    rw [h1, Nat.pow_succ, Nat.mul_comm (256 ^ k) 256, Nat.mod_mul]
    omega

theorem valL_beL_of_lt {n k : Nat} (h : n < 256 ^ k) : valL (beL n k) = n := by rw [valL_beL, Nat.mod_eq_of_lt h]

theorem beL_valL (k : Nat) : ∀ l : List UInt8, l.length = k → beL (valL l) k = l := by
  induction k with
  | zero => intro l hl; rw [List.eq_nil_of_length_eq_zero hl]; rfl
  | succ k ih =>
    intro l hl
    obtain ⟨r, b, rfl⟩ : ∃ r b, l = r ++ [b] := by
      rcases List.eq_nil_or_concat l with rfl | ⟨r, b, rfl⟩
      · simp at hl
      · exact ⟨r, b, by simp⟩
    have hb := b.toNat_lt
    rw [beL_succ, valL_snoc]
    have e1 : (256 * valL r + b.toNat) / 256 = valL r := by omega
    have e2 : (256 * valL r + b.toNat) % 256 = b.toNat := by omega
    rw [e1, e2, ih r (by simpa using hl)]
    simp

theorem beL_wider {n : Nat} : ∀ (k : Nat), n < 256 ^ k → beL n (k + 1) = 0 :: beL n k := by
  intro k h
  have h1 : (0 :: beL n k).length = k + 1 := by simp [beL_length]
  have h2 := beL_valL (k + 1) (0 :: beL n k) h1
  have h3 : valL (0 :: beL n k) = n := by
    have := valL_append [0] (beL n k)
    rw [List.singleton_append] at this
    rw [this, valL_beL_of_lt h]
    simp [valL]
  rw [h3] at h2
  exact h2

theorem beL_inj {n m k : Nat} (hn : n < 256 ^ k) (hm : m < 256 ^ k) (h : beL n k = beL m k) : n = m := by
  rw [← valL_beL_of_lt hn, ← valL_beL_of_lt hm, h]

theorem valL_cons (b : UInt8) (l : List UInt8) : valL (b :: l) = 256 ^ l.length * b.toNat + valL l := by
  have := valL_append [b] l
  rw [List.singleton_append] at this
  rw [this]
  simp [valL]

theorem bytesLess_val : ∀ (x y : List UInt8), x.length = y.length → Op.bytesLess x y = decide (valL x < valL y)
  | [], [], _ => by simp [Op.bytesLess, valL]
  | [], _ :: _, h => by simp at h
  | _ :: _, [], h => by simp at h
  | a :: x, b :: y, h => by
    have hl : x.length = y.length := by simpa using h
    have ih := bytesLess_val x y hl
    have hx := valL_lt x
    have hy := valL_lt y
    rw [hl] at hx
    simp only [Op.bytesLess, ih, valL_cons, hl]
    generalize 256 ^ y.length = p at *
    have e1 : (a < b) = (a.toNat < b.toNat) := by rw [UInt8.lt_iff_toNat_lt]
    have e2 : (a == b) = decide (a.toNat = b.toNat) := by
      rw [Bool.eq_iff_iff]
      simp [← UInt8.toNat_inj]
    rw [e2]
    simp only [e1]
    rcases Nat.lt_trichotomy a.toNat b.toNat with h1 | h1 | h1
    · have : p * a.toNat + p ≤ p * b.toNat := by
        calc p * a.toNat + p = p * (a.toNat + 1) := by rw [Nat.mul_add, Nat.mul_one]
          _ ≤ p * b.toNat := Nat.mul_le_mul_left _ h1
      simp [h1]
      omega
    · rw [h1]
      simp
    · have : p * b.toNat + p ≤ p * a.toNat := by
        calc p * b.toNat + p = p * (b.toNat + 1) := by rw [Nat.mul_add, Nat.mul_one]
          _ ≤ p * a.toNat := Nat.mul_le_mul_left _ h1
      have h2 : ¬ a.toNat < b.toNat := by omega
      have h3 : ¬ a.toNat = b.toNat := by omega
      simp [h2, h3]
      omega

theorem bytesLess_beL {n m k : Nat} (hn : n < 256 ^ k) (hm : m < 256 ^ k) : Op.bytesLess (beL n k) (beL m k) = decide (n < m) := by
  rw [bytesLess_val _ _ (by simp [beL_length]), valL_beL_of_lt hn, valL_beL_of_lt hm]

/-- The three ways of Bytes. -/
theorem bytesR_cases (n k : Int) : (k < 1 ∨ 8 < k) ∧ bytesR n k = (⟨#[]⟩, 2) ∨ (1 ≤ k ∧ k ≤ 8) ∧ ¬ Room n k ∧ bytesR n k = (⟨#[]⟩, 10) ∨ ∃ m j : Nat, n = m ∧ k = j ∧ 1 ≤ j ∧ j ≤ 8 ∧ m ≤ 281474976710655 ∧ m < 256 ^ j ∧ bytesR n k = (⟨(beL m j).toArray⟩, 0) := by
  by_cases hk : k < 1 ∨ 8 < k
  · exact .inl ⟨hk, bytesR_arg hk⟩
  by_cases hr : Room n k
  · have e := bytesR_ok hk hr
    obtain ⟨h0, h1, h2⟩ := hr
    obtain ⟨m, rfl⟩ := Int.eq_ofNat_of_zero_le h0
    obtain ⟨j, rfl⟩ := Int.eq_ofNat_of_zero_le (show 0 ≤ k by omega)
    exact .inr (.inr ⟨m, j, rfl, rfl, by omega, by omega, by omega, h2, e⟩)
  · exact .inr (.inl ⟨by omega, hr, bytesR_num hk hr⟩)

theorem bytesR_of {m j : Nat} (h1 : 1 ≤ j) (h2 : j ≤ 8) (h3 : m ≤ 281474976710655) (h4 : m < 256 ^ j) : bytesR m j = (⟨(beL m j).toArray⟩, 0) :=
  bytesR_ok (by omega) ⟨by omega, by omega, h4⟩
end Go.Proofs.YtdlkmdjhjdpmeaaGreatDoor
