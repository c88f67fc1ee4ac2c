/- Package signs: flags as 64 bits; their lowest ones. -/
import Derived.Test.YtlddkoblicnepaaDoorChecked
import Derived.WalkKit
set_option linter.unusedVariables false
set_option linter.unusedSimpArgs false
namespace Go.Proofs.YtlddkoblicnepaaDoor

/-- The wrap of a number of 64 bits with a sign. -/
theorem wrap_bmod (n : Int) : IntKind.i64.wrap n = n.bmod (2 ^ 64) := by
  unfold IntKind.wrap Int.bmod
  dsimp only
  split <;> rename_i h1 <;> split <;> rename_i h2 <;> simp [IntKind.bits, IntKind.signed] at h1 h2 ⊢ <;> omega
theorem wrap_toNat (X : BitVec 64) : IntKind.i64.wrap (X.toNat : Int) = X.toInt := by
  rw [wrap_bmod, BitVec.toInt_eq_toNat_bmod]
/-- Flags as a number (a name that simp leaves alone). -/
def tI (X : BitVec 64) : Int := X.toInt
theorem band (X Y : BitVec 64) : bits .and .i64 (tI X) (tI Y) = tI (X &&& Y) := by
  show IntKind.i64.wrap (((BitVec.ofInt 64 X.toInt &&& BitVec.ofInt 64 Y.toInt).toNat : Nat) : Int) = _
  rw [BitVec.ofInt_toInt, BitVec.ofInt_toInt, wrap_toNat]; rfl
theorem bor (X Y : BitVec 64) : bits .or .i64 (tI X) (tI Y) = tI (X ||| Y) := by
  show IntKind.i64.wrap (((BitVec.ofInt 64 X.toInt ||| BitVec.ofInt 64 Y.toInt).toNat : Nat) : Int) = _
  rw [BitVec.ofInt_toInt, BitVec.ofInt_toInt, wrap_toNat]; rfl
theorem bandNot (X Y : BitVec 64) : bits .andNot .i64 (tI X) (tI Y) = tI (X &&& ~~~Y) := by
  show IntKind.i64.wrap (((BitVec.ofInt 64 X.toInt &&& ~~~(BitVec.ofInt 64 Y.toInt)).toNat : Nat) : Int) = _
  rw [BitVec.ofInt_toInt, BitVec.ofInt_toInt, wrap_toNat]; rfl
theorem bsub (X Y : BitVec 64) : IntKind.i64.wrap (tI X - tI Y) = tI (X - Y) := by
  show IntKind.i64.wrap (X.toInt - Y.toInt) = (X - Y).toInt
  rw [wrap_bmod, BitVec.toInt_sub]
theorem badd (X Y : BitVec 64) : IntKind.i64.wrap (tI X + tI Y) = tI (X + Y) := by
  show IntKind.i64.wrap (X.toInt + Y.toInt) = (X + Y).toInt
  rw [wrap_bmod, BitVec.toInt_add]
theorem bneg (X : BitVec 64) : IntKind.i64.wrap (-tI X) = tI (-X) := by
  show IntKind.i64.wrap (-X.toInt) = (-X).toInt
  rw [wrap_bmod, BitVec.toInt_neg]
theorem tI_inj {X Y : BitVec 64} (h : tI X = tI Y) : X = Y := BitVec.eq_of_toInt_eq h
theorem ofInt_tI (X : BitVec 64) : BitVec.ofInt 64 (tI X) = X := BitVec.ofInt_toInt
theorem tI_zero : tI 0#64 = 0 := rfl
theorem beq_tI (X Y : BitVec 64) : (tI X == tI Y) = (X == Y) := by
  by_cases h : X = Y
  · subst h; rw [beq_self_eq_true, beq_self_eq_true]
  · rw [beq_eq_false_iff_ne.2 h, beq_eq_false_iff_ne]
    intro e
    exact h (tI_inj e)
theorem beq0 (X : BitVec 64) : (tI X == 0) = (X == 0#64) := beq_tI X 0#64
/-- Every number of 64 bits with a sign is one of bits. -/
theorem of_i64 {n : Int} (h1 : -9223372036854775808 ≤ n) (h2 : n ≤ 9223372036854775807) : ∃ X : BitVec 64, n = tI X :=
  ⟨BitVec.ofInt 64 n, by show n = (BitVec.ofInt 64 n).toInt; rw [BitVec.toInt_ofInt, Int.bmod_def]; omega⟩

/-- The lowest flag; the others. -/
def lowF (X : BitVec 64) : BitVec 64 := X &&& -X
def othF (X : BitVec 64) : BitVec 64 := X &&& (X - 1#64)

theorem odd_part : ∀ (n : Nat), 0 < n → ∃ i k, n = 2 ^ (i + 1) * k + 2 ^ i := by
  intro n
  induction n using Nat.strongRecOn with
  | _ n ih =>
    intro h
    rcases Nat.mod_two_eq_zero_or_one n with e | e
    · obtain ⟨i, k, hk⟩ := ih (n / 2) (by omega) (by omega)
      refine ⟨i + 1, k, ?_⟩
      have : n = 2 * (n / 2) := by omega
      rw [this, hk, Nat.mul_add, ← Nat.mul_assoc, ← Nat.pow_succ', ← Nat.pow_succ']
    · exact ⟨0, n / 2, by omega⟩

/-- The lowest flag: one bit of them; the others are there as they were. -/
theorem low_bit (X : BitVec 64) (h : X ≠ 0#64) : ∃ i, i < 64 ∧ lowF X = BitVec.twoPow 64 i ∧ X.getLsbD i = true ∧ (∀ j, j < i → X.getLsbD j = false) ∧ ∀ j, (othF X).getLsbD j = (X.getLsbD j && !decide (i = j)) := by
  have h0 : 0 < X.toNat := by
    rcases Nat.eq_zero_or_pos X.toNat with e | e
    · exact absurd (BitVec.eq_of_toNat_eq (by rw [e]; rfl)) h
    · exact e
  obtain ⟨i, k, hn⟩ := odd_part X.toNat h0
  have hlt := X.isLt
  have hpi : 0 < 2 ^ i := Nat.two_pow_pos i
  have hi : i < 64 := by
    have h2 : 2 ^ i < 2 ^ 64 := by
      have : 2 ^ i ≤ X.toNat := by rw [hn]; exact Nat.le_add_left _ _
      omega
    exact (Nat.pow_lt_pow_iff_right (by omega)).1 h2
  have hp1 : 2 ^ i < 2 ^ (i + 1) := Nat.pow_lt_pow_right (by omega) (by omega)
  have hx : ∀ j, X.getLsbD j = if j < i + 1 then decide (i = j) else k.testBit (j - (i + 1)) := fun j => by
    rw [BitVec.getLsbD, hn, Nat.testBit_two_pow_mul_add _ hp1, Nat.testBit_two_pow]
  have h1 : (X - 1#64).toNat = 2 ^ (i + 1) * k + (2 ^ i - 1) := by
    have : (X - 1#64).toNat = X.toNat - 1 := by
      rw [BitVec.toNat_sub]
      simp only [BitVec.toNat_ofNat]
      omega
    omega
  have hy : ∀ j, (X - 1#64).getLsbD j = if j < i + 1 then decide (j < i) else k.testBit (j - (i + 1)) := fun j => by
    rw [BitVec.getLsbD, h1, Nat.testBit_two_pow_mul_add _ (by omega), Nat.testBit_two_pow_sub_one]
  have hneg : -X = ~~~(X - 1#64) := by rw [BitVec.not_sub_one_eq_not_add_one, BitVec.neg_eq_not_add]
  refine ⟨i, hi, ?_, ?_, ?_, ?_⟩
  · apply BitVec.eq_of_getLsbD_eq
    intro j hj
    rw [lowF, BitVec.getLsbD_and, hneg, BitVec.getLsbD_not, hx, hy, BitVec.getLsbD_twoPow]
    by_cases h1 : j < i + 1
    · rw [if_pos h1, if_pos h1]
      by_cases e : i = j
      · subst e; simp [hi]
      · simp [e]
    · rw [if_neg h1, if_neg h1]
      have e : ¬ i = j := by omega
      cases k.testBit (j - (i + 1)) <;> simp [e, hj]
  · rw [hx, if_pos (by omega)]; simp
  · intro j hj
    rw [hx, if_pos (by omega)]
    simp; omega
  · intro j
    rw [othF, BitVec.getLsbD_and, hy, hx]
    by_cases h1 : j < i + 1
    · rw [if_pos h1, if_pos h1]
      by_cases e : i = j
      · subst e; simp
      · simp [e]
    · rw [if_neg h1, if_neg h1]
      have e : ¬ i = j := by omega
      simp [e]

theorem low_less {X : BitVec 64} (h : X ≠ 0#64) : (othF X).toNat < X.toNat := by
  have h0 : 0 < X.toNat := by
    rcases Nat.eq_zero_or_pos X.toNat with e | e
    · exact absurd (BitVec.eq_of_toNat_eq (by rw [e]; rfl)) h
    · exact e
  have hlt := X.isLt
  have h1 : (X - 1#64).toNat = X.toNat - 1 := by
    rw [BitVec.toNat_sub]
    simp only [BitVec.toNat_ofNat]
    omega
  rw [othF, BitVec.toNat_and, h1]
  exact Nat.lt_of_le_of_lt Nat.and_le_right (by omega)

/-- Flags are all among those. -/
def onlyB (X M : BitVec 64) : Bool := X &&& ~~~M == 0#64
theorem only_zero (M : BitVec 64) : onlyB 0#64 M = true := by simp [onlyB]
theorem eq_zero_iff (X : BitVec 64) : X = 0#64 ↔ ∀ j, X.getLsbD j = false := by
  constructor
  · rintro rfl j; simp
  · intro h; exact BitVec.eq_of_getLsbD_eq fun j _ => by rw [h j]; simp
theorem only_bad {X M : BitVec 64} (h : X ≠ 0#64) (hf : lowF X &&& M = 0#64) : onlyB X M = false := by
  obtain ⟨i, hi, e, hxi, _, _⟩ := low_bit X h
  rw [e] at hf
  have := (eq_zero_iff _).1 hf i
  rw [BitVec.getLsbD_and, BitVec.getLsbD_twoPow] at this
  have hm : M.getLsbD i = false := by simpa [hi] using this
  unfold onlyB
  rw [beq_eq_false_iff_ne]
  intro hz
  have := (eq_zero_iff _).1 hz i
  rw [BitVec.getLsbD_and, BitVec.getLsbD_not, hxi, hm] at this
  simp [hi] at this
theorem only_good {X M : BitVec 64} (h : X ≠ 0#64) (hf : lowF X &&& M ≠ 0#64) : onlyB (othF X) M = onlyB X M := by
  obtain ⟨i, hi, e, hxi, _, hx'⟩ := low_bit X h
  rw [e] at hf
  have hm : M.getLsbD i = true := by
    cases hm : M.getLsbD i with
    | true => rfl
    | false =>
      refine absurd ((eq_zero_iff _).2 fun j => ?_) hf
      rw [BitVec.getLsbD_and, BitVec.getLsbD_twoPow]
      by_cases e : i = j
      · subst e; rw [hm]; simp
      · simp [e]
  unfold onlyB
  have : othF X &&& ~~~M = X &&& ~~~M := by
    apply BitVec.eq_of_getLsbD_eq
    intro j hj
    rw [BitVec.getLsbD_and, hx', BitVec.getLsbD_and, BitVec.getLsbD_not]
    by_cases e : i = j
    · subst e; rw [hm]; simp
    · simp [e]
  rw [this]

/-- What is left behind n of them. -/
def leftN : Nat → BitVec 64 → BitVec 64
  | 0, X => X
  | n + 1, X => leftN n (othF X)
theorem left_succ : ∀ (n : Nat) (X : BitVec 64), leftN (n + 1) X = othF (leftN n X)
  | 0, _ => rfl
  | n + 1, X => left_succ n (othF X)
theorem left_zero : ∀ (n : Nat), leftN n 0#64 = 0#64
  | 0 => rfl
  | n + 1 => by show leftN n (othF 0#64) = 0#64; rw [show othF 0#64 = 0#64 by decide]; exact left_zero n
/-- Behind 64 of them nothing is left. -/
theorem left_64 (X : BitVec 64) : leftN 64 X = 0#64 := by
  have : ∀ n (X : BitVec 64), n ≤ 64 → (∀ j, j < 64 - n → X.getLsbD j = false) → leftN n X = 0#64 := by
    intro n
    induction n with
    | zero => intro X _ h; exact (eq_zero_iff _).2 fun j => by by_cases hj : j < 64 - 0; exact h j hj; exact BitVec.getLsbD_of_ge _ _ (by omega)
    | succ n ih =>
      intro X hn h
      by_cases h0 : X = 0#64
      · subst h0; exact left_zero _
      · obtain ⟨i, hi, _, hxi, hlo, hx'⟩ := low_bit X h0
        have hij : 64 - (n + 1) ≤ i := by
          rcases Nat.lt_or_ge i (64 - (n + 1)) with h1 | h1
          · rw [h i h1] at hxi; cases hxi
          · exact h1
        refine ih _ (by omega) fun j hj => ?_
        rw [hx']
        by_cases e : j < 64 - (n + 1)
        · rw [h j e]; rfl
        · by_cases e2 : i = j
          · simp [e2]
          · obtain rfl : j = 64 - (n + 1) := by omega
            rw [hlo _ (by omega)]; rfl
  exact this 64 X (by omega) (by simp)
end Go.Proofs.YtlddkoblicnepaaDoor
