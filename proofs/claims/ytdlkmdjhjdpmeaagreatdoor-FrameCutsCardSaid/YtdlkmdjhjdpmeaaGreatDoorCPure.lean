/- Sums of bytes (crc): registers as numbers, a byte's part, the sum by a table; which texts have another sum: plain mathematics. -/
import Derived.Lib.Hide
set_option linter.unusedVariables false
set_option linter.unusedSimpArgs false
namespace Go.Proofs.YtdlkmdjhjdpmeaaGreatDoor

/-- A register, halved; put is put to it if it was odd. -/
def stp (p r : Nat) : Nat := if r % 2 = 1 then (r / 2) ^^^ p else r / 2
/-- So many times. -/
def stN (p : Nat) : Nat → Nat → Nat
  | 0, r => r
  | n + 1, r => stN p n (stp p r)
/-- A byte's part. -/
def prt (p b : Nat) : Nat := stN p 8 b

theorem xor_half (a b : Nat) : (a ^^^ b) / 2 = (a / 2) ^^^ (b / 2) := by
  apply Nat.eq_of_testBit_eq
  intro i
  simp [Nat.testBit_div_two]
theorem xor_odd (a b : Nat) : (a ^^^ b) % 2 = (a % 2 + b % 2) % 2 := by
  have h := Nat.testBit_xor a b 0
  simp only [Nat.testBit_zero] at h
  have ha := Nat.mod_two_eq_zero_or_one a
  have hb := Nat.mod_two_eq_zero_or_one b
  have hx := Nat.mod_two_eq_zero_or_one (a ^^^ b)
  rcases ha with ha | ha <;> rcases hb with hb | hb <;> rcases hx with hx | hx <;> simp [ha, hb, hx] at h ⊢
theorem stp_xor (p a b : Nat) : stp p (a ^^^ b) = stp p a ^^^ stp p b := by
  unfold stp
  rw [xor_odd, xor_half]
  rcases Nat.mod_two_eq_zero_or_one a with ha | ha <;> rcases Nat.mod_two_eq_zero_or_one b with hb | hb
  · simp [ha, hb]
  · simp [ha, hb, Nat.xor_assoc]
  · simp only [ha, hb]
    simp
    rw [Nat.xor_assoc, Nat.xor_comm (b / 2) p, Nat.xor_assoc]
  · simp only [ha, hb]
    simp
    rw [Nat.xor_assoc, Nat.xor_comm (b / 2) p, ← Nat.xor_assoc p, Nat.xor_self, Nat.zero_xor]
theorem stN_xor (p : Nat) : ∀ (n a b : Nat), stN p n (a ^^^ b) = stN p n a ^^^ stN p n b
  | 0, a, b => rfl
  | n + 1, a, b => by rw [stN, stN, stN, stp_xor, stN_xor p n]
theorem stp_zero (p : Nat) : stp p 0 = 0 := by simp [stp]
theorem stN_zero (p : Nat) : ∀ n, stN p n 0 = 0
  | 0 => rfl
  | n + 1 => by rw [stN, stp_zero, stN_zero p n]
theorem stN_add (p : Nat) : ∀ (m n r : Nat), stN p (m + n) r = stN p n (stN p m r)
  | 0, n, r => by simp [stN]
  | m + 1, n, r => by rw [show m + 1 + n = (m + n) + 1 by omega, stN, stN, stN_add p m n]
/-- Numbers that are even are halved. -/
theorem stN_pow (p : Nat) : ∀ (n q : Nat), stN p n (2 ^ n * q) = q
  | 0, q => by simp [stN]
  | n + 1, q => by
    rw [stN]
    have e : stp p (2 ^ (n + 1) * q) = 2 ^ n * q := by
      unfold stp
      rw [show 2 ^ (n + 1) * q = 2 * (2 ^ n * q) by rw [Nat.pow_succ]; rw [Nat.mul_comm (2 ^ n) 2, Nat.mul_assoc], if_neg (by omega), Nat.mul_div_cancel_left _ (by omega)]
    rw [e, stN_pow p n q]

/-- Numbers of w bits stay of w bits. -/
theorem stp_lt {p w r : Nat} (hw : 1 ≤ w) (hp : p < 2 ^ w) (hr : r < 2 ^ w) : stp p r < 2 ^ w := by
  unfold stp
  have h2 : r / 2 < 2 ^ w := Nat.lt_of_le_of_lt (Nat.div_le_self _ _) hr
  split
  · exact Nat.xor_lt_two_pow h2 hp
  · exact h2
theorem stN_lt {p w : Nat} (hw : 1 ≤ w) (hp : p < 2 ^ w) : ∀ (n r : Nat), r < 2 ^ w → stN p n r < 2 ^ w
  | 0, r, h => h
  | n + 1, r, h => stN_lt hw hp n _ (stp_lt hw hp h)
/-- With p's highest bit set nothing but 0 becomes 0. -/
theorem stp_ne {p w r : Nat} (hp : 2 ^ w ≤ p) (hp2 : p < 2 ^ (w + 1)) (hr : r < 2 ^ (w + 1)) (h : stp p r = 0) : r = 0 := by
  unfold stp at h
  split at h
  · rename_i ho
    have e : r / 2 = p := by
      have := congrArg (· ^^^ p) h
      simpa [Nat.xor_assoc] using this
    have : r / 2 < 2 ^ w := by rw [Nat.div_lt_iff_lt_mul (by omega)]; rw [Nat.pow_succ] at hr; omega
    omega
  · omega
theorem stN_ne {p w : Nat} (hp : 2 ^ w ≤ p) (hp2 : p < 2 ^ (w + 1)) : ∀ (n r : Nat), r < 2 ^ (w + 1) → stN p n r = 0 → r = 0
  | 0, r, _, h => h
  | n + 1, r, hr, h => stp_ne hp hp2 hr (stN_ne hp hp2 n _ (stp_lt (by omega) hp2 hr) h)
theorem xor_eq_zero' {a b : Nat} (h : a ^^^ b = 0) : a = b := by
  have := congrArg (· ^^^ b) h
  simpa [Nat.xor_assoc] using this
theorem stN_inj {p w : Nat} (hp : 2 ^ w ≤ p) (hp2 : p < 2 ^ (w + 1)) {n a b : Nat} (ha : a < 2 ^ (w + 1)) (hb : b < 2 ^ (w + 1)) (h : stN p n a = stN p n b) : a = b := by
  apply xor_eq_zero'
  refine stN_ne hp hp2 n _ (Nat.xor_lt_two_pow ha hb) ?_
  rw [stN_xor, h, Nat.xor_self]

/-- A register behind a byte, by the kind's own table. -/
def upd (p r b : Nat) : Nat := (r / 256) ^^^ prt p (r % 256 ^^^ b)
theorem split256 (r : Nat) : r = 2 ^ 8 * (r / 256) ^^^ r % 256 := by
  have e : 2 ^ 8 * (r / 256) ^^^ r % 256 = 2 ^ 8 * (r / 256) + r % 256 := by
    rw [Nat.two_pow_add_eq_or_of_lt (by show r % 256 < 2 ^ 8; omega)]
    apply Nat.eq_of_testBit_eq
    intro i
    rw [Nat.testBit_xor, Nat.testBit_or, Nat.testBit_two_pow_mul]
    by_cases h : 8 ≤ i
    · have : (r % 256).testBit i = false := Nat.testBit_lt_two_pow (Nat.lt_of_lt_of_le (show r % 256 < 2 ^ 8 by omega) (Nat.pow_le_pow_right (by omega) h))
      simp [this]
    · simp [h]
  rw [e]
  omega
theorem upd_eq (p r b : Nat) : upd p r b = stN p 8 (r ^^^ b) := by
  unfold upd prt
  conv => rhs; rw [split256 r, Nat.xor_assoc, stN_xor, stN_pow]

/-- A register behind many bytes. -/
def rgs (p : Nat) : Nat → List UInt8 → Nat
  | r, [] => r
  | r, b :: s => rgs p (upd p r b.toNat) s
theorem rgs_append (p : Nat) : ∀ (r : Nat) (s t : List UInt8), rgs p r (s ++ t) = rgs p (rgs p r s) t
  | r, [], t => rfl
  | r, b :: s, t => by rw [List.cons_append, rgs, rgs, rgs_append p _ s t]
/-- Bytes, the first one lowest. -/
def le : List UInt8 → Nat
  | [] => 0
  | b :: s => b.toNat + 2 ^ 8 * le s
theorem le_lt : ∀ s : List UInt8, le s < 2 ^ (8 * s.length)
  | [] => by simp [le]
  | b :: s => by
    have := le_lt s
    have hb := b.toNat_lt
    rw [le, List.length_cons, show 8 * (s.length + 1) = 8 * s.length + 8 by omega, Nat.pow_add]
    have : (le s + 1) * 2 ^ 8 ≤ 2 ^ (8 * s.length) * 2 ^ 8 := Nat.mul_le_mul_right _ this
    omega
theorem le_inj : ∀ {s t : List UInt8}, s.length = t.length → le s = le t → s = t
  | [], [], _, _ => rfl
  | b :: s, c :: t, hl, h => by
    simp only [le] at h
    have hb := b.toNat_lt
    have hc := c.toNat_lt
    have h1 : b.toNat = c.toNat := by omega
    have h2 : le s = le t := by omega
    rw [le_inj (by simpa using hl) h2, UInt8.toNat_inj.1 h1]
theorem add_xor {a b : Nat} (h : a < 2 ^ 8) : a + 2 ^ 8 * b = a ^^^ 2 ^ 8 * b := by
  have := split256 (a + 2 ^ 8 * b)
  rw [show (a + 2 ^ 8 * b) / 256 = b by omega, show (a + 2 ^ 8 * b) % 256 = a by omega] at this
  rw [this, Nat.xor_comm]
/-- A register behind bytes is one that was changed so often. -/
theorem rgs_le (p : Nat) : ∀ (s : List UInt8) (r : Nat), rgs p r s = stN p (8 * s.length) (r ^^^ le s)
  | [], r => by simp [rgs, le, stN]
  | b :: s, r => by
    rw [rgs, rgs_le p s, upd_eq, List.length_cons, show 8 * (s.length + 1) = 8 + 8 * s.length by omega, stN_add]
    congr 1
    rw [le, add_xor b.toNat_lt, ← Nat.xor_assoc, stN_xor p 8 (r ^^^ b.toNat), stN_pow]
theorem rgs_lt {p w : Nat} (hw : 1 ≤ w) (hp : p < 2 ^ w) (h8 : 8 ≤ w) : ∀ (s : List UInt8) (r : Nat), r < 2 ^ w → rgs p r s < 2 ^ w
  | [], r, h => h
  | b :: s, r, h => by
    rw [rgs]
    refine rgs_lt hw hp h8 s _ ?_
    rw [upd_eq]
    exact stN_lt hw hp 8 _ (Nat.xor_lt_two_pow h (Nat.lt_of_lt_of_le b.toNat_lt (Nat.pow_le_pow_right (by omega) h8)))
/-- Registers that are not the same stay so. -/
theorem rgs_inj {p w : Nat} (hp : 2 ^ w ≤ p) (hp2 : p < 2 ^ (w + 1)) (h8 : 8 ≤ w + 1) : ∀ (s : List UInt8) {a b : Nat}, a < 2 ^ (w + 1) → b < 2 ^ (w + 1) → rgs p a s = rgs p b s → a = b
  | [], a, b, _, _, h => h
  | c :: s, a, b, ha, hb, h => by
    rw [rgs, rgs] at h
    have hc : c.toNat < 2 ^ (w + 1) := Nat.lt_of_lt_of_le c.toNat_lt (Nat.pow_le_pow_right (by omega) h8)
    have k1 : upd p a c.toNat < 2 ^ (w + 1) := by rw [upd_eq]; exact stN_lt (by omega) hp2 8 _ (Nat.xor_lt_two_pow ha hc)
    have k2 : upd p b c.toNat < 2 ^ (w + 1) := by rw [upd_eq]; exact stN_lt (by omega) hp2 8 _ (Nat.xor_lt_two_pow hb hc)
    have e := rgs_inj hp hp2 h8 s k1 k2 h
    rw [upd_eq, upd_eq] at e
    have e2 := stN_inj hp hp2 (Nat.xor_lt_two_pow ha hc) (Nat.xor_lt_two_pow hb hc) e
    have := congrArg (· ^^^ c.toNat) e2
    simpa [Nat.xor_assoc] using this
/-- Bytes beside each other, no more than the register has, that are others make another register. -/
theorem rgs_burst {p w : Nat} (hp : 2 ^ w ≤ p) (hp2 : p < 2 ^ (w + 1)) (h8 : 8 ≤ w + 1) {r : Nat} (hr : r < 2 ^ (w + 1)) {a b s t : List UInt8} (hl : s.length = t.length) (hs : 8 * s.length ≤ w + 1) : (rgs p r (a ++ (s ++ b)) = rgs p r (a ++ (t ++ b))) ↔ s = t := by
  constructor
  · intro h
    rw [rgs_append, rgs_append, rgs_append, rgs_append] at h
    have hra := rgs_lt (by omega) hp2 h8 a r hr
    generalize rgs p r a = q at *
    have e := rgs_inj hp hp2 h8 b (rgs_lt (by omega) hp2 h8 s q hra) (rgs_lt (by omega) hp2 h8 t q hra) h
    rw [rgs_le, rgs_le, ← hl] at e
    have l1 : le s < 2 ^ (w + 1) := Nat.lt_of_lt_of_le (le_lt s) (Nat.pow_le_pow_right (by omega) hs)
    have l2 : le t < 2 ^ (w + 1) := Nat.lt_of_lt_of_le (le_lt t) (Nat.pow_le_pow_right (by omega) (by omega))
    have e2 := stN_inj hp hp2 (Nat.xor_lt_two_pow hra l1) (Nat.xor_lt_two_pow hra l2) e
    refine le_inj hl ?_
    have := congrArg (q ^^^ ·) e2
    simpa [← Nat.xor_assoc] using this
  · intro h; rw [h]
end Go.Proofs.YtdlkmdjhjdpmeaaGreatDoor
