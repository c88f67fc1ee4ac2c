/- Facts on numbers and their bytes, without any program: a number is told from its bytes, bytes are those of their number, a wider row has a byte 0 ahead. -/
import Derived.Test.YtmbmolgkccjedaaGreatDoorM2
import Derived.LoopTactic
import Derived.Laws.IdiomStrings
set_option linter.unusedVariables false
set_option linter.unusedSimpArgs false
namespace Go.Proofs.YtmbmolgkccjedaaGreatDoor
open Go.RowKit

theorem byteAt_lt (n k j : Nat) : byteAt n k j < 256 := Nat.mod_lt _ (by omega)
theorem beL_zero (n : Nat) : beL n 0 = [] := rfl

theorem beL_succ (n k : Nat) : beL n (k + 1) = beL (n / 256) k ++ [UInt8.ofNat (n % 256)] := by
  unfold beL
  rw [List.range_succ, List.map_append]
  congr 1
  · apply List.map_congr_left
    intro j hj
    rw [List.mem_range] at hj
    unfold byteAt
    have : k + 1 - 1 - j = (k - 1 - j) + 1 := by omega
    rw [this, Nat.pow_succ, Nat.mul_comm, ← Nat.div_div_eq_div_mul]
  · simp [byteAt]

theorem valL_beL (k : Nat) : ∀ n : Nat, valL (beL n k) = n % 256 ^ k := by
  induction k with
  | zero => intro n; simp [beL, valL, Nat.mod_one]
  | succ k ih =>
    intro n
    rw [beL_succ, valL_snoc, ih]
    have h1 : (UInt8.ofNat (n % 256)).toNat = n % 256 := by simp
    rw [h1, Nat.pow_succ, Nat.mul_comm (256 ^ k) 256, Nat.mod_mul]
    omega

theorem valL_beL_of_lt {n k : Nat} (h : n < 256 ^ k) : valL (beL n k) = n := by rw [valL_beL, Nat.mod_eq_of_lt h]

theorem beL_valL (k : Nat) : ∀ l : List UInt8, l.length = k → beL (valL l) k = l := by
  induction k with
  | zero => intro l hl; rw [List.eq_nil_of_length_eq_zero hl]; rfl
  | succ k ih =>
    intro l hl
    obtain ⟨r, b, rfl⟩ : ∃ r b, l = r ++ [b] := by
      rcases List.eq_nil_or_concat l with rfl | ⟨r, b, rfl⟩
      · simp at hl
      · exact ⟨r, b, by simp⟩
    have hb := b.toNat_lt
    rw [beL_succ, valL_snoc]
    have e1 : (256 * valL r + b.toNat) / 256 = valL r := by omega
    have e2 : (256 * valL r + b.toNat) % 256 = b.toNat := by omega
    rw [e1, e2, ih r (by simpa using hl)]
    simp

theorem beL_wider {n : Nat} : ∀ (k : Nat), n < 256 ^ k → beL n (k + 1) = 0 :: beL n k := by
  intro k h
  have h1 : (0 :: beL n k).length = k + 1 := by simp [beL_length]
  have h2 := beL_valL (k + 1) (0 :: beL n k) h1
  have h3 : valL (0 :: beL n k) = n := by
    have := valL_append [0] (beL n k)
    rw [List.singleton_append] at this
    rw [this, valL_beL_of_lt h]
    simp [valL]
  rw [h3] at h2
  exact h2

theorem beL_inj {n m k : Nat} (hn : n < 256 ^ k) (hm : m < 256 ^ k) (h : beL n k = beL m k) : n = m := by
  rw [← valL_beL_of_lt hn, ← valL_beL_of_lt hm, h]

theorem valL_cons (b : UInt8) (l : List UInt8) : valL (b :: l) = 256 ^ l.length * b.toNat + valL l := by
  have := valL_append [b] l
  rw [List.singleton_append] at this
  rw [this]
  simp [valL]

theorem bytesLess_val : ∀ (x y : List UInt8), x.length = y.length → Op.bytesLess x y = decide (valL x < valL y)
  | [], [], _ => by simp [Op.bytesLess, valL]
  | [], _ :: _, h => by simp at h
  | _ :: _, [], h => by simp at h
  | a :: x, b :: y, h => by
    have hl : x.length = y.length := by simpa using h
    have ih := bytesLess_val x y hl
    have hx := valL_lt x
    have hy := valL_lt y
    rw [hl] at hx
    simp only [Op.bytesLess, ih, valL_cons, hl]
    generalize 256 ^ y.length = p at *
    have e1 : (a < b) = (a.toNat < b.toNat) := by rw [UInt8.lt_iff_toNat_lt]
    have e2 : (a == b) = decide (a.toNat = b.toNat) := by
      rw [Bool.eq_iff_iff]
      simp [← UInt8.toNat_inj]
    rw [e2]
    simp only [e1]
    rcases Nat.lt_trichotomy a.toNat b.toNat with h1 | h1 | h1
    · have : p * a.toNat + p ≤ p * b.toNat := by
        calc p * a.toNat + p = p * (a.toNat + 1) := by rw [Nat.mul_add, Nat.mul_one]
          _ ≤ p * b.toNat := Nat.mul_le_mul_left _ h1
      simp [h1]
      omega
    · rw [h1]
      simp
    · have : p * b.toNat + p ≤ p * a.toNat := by
        calc p * b.toNat + p = p * (b.toNat + 1) := by rw [Nat.mul_add, Nat.mul_one]
          _ ≤ p * a.toNat := Nat.mul_le_mul_left _ h1
      have h2 : ¬ a.toNat < b.toNat := by omega
      have h3 : ¬ a.toNat = b.toNat := by omega
      simp [h2, h3]
      omega

theorem bytesLess_beL {n m k : Nat} (hn : n < 256 ^ k) (hm : m < 256 ^ k) : Op.bytesLess (beL n k) (beL m k) = decide (n < m) := by
  rw [bytesLess_val _ _ (by simp [beL_length]), valL_beL_of_lt hn, valL_beL_of_lt hm]

/-- The three ways of Bytes. -/
theorem bytesR_cases (n k : Int) : (k < 1 ∨ 8 < k) ∧ bytesR n k = (⟨#[]⟩, 2) ∨ (1 ≤ k ∧ k ≤ 8) ∧ ¬ Room n k ∧ bytesR n k = (⟨#[]⟩, 10) ∨ ∃ m j : Nat, n = m ∧ k = j ∧ 1 ≤ j ∧ j ≤ 8 ∧ m ≤ 281474976710655 ∧ m < 256 ^ j ∧ bytesR n k = (⟨(beL m j).toArray⟩, 0) := by
  by_cases hk : k < 1 ∨ 8 < k
  · exact .inl ⟨hk, bytesR_arg hk⟩
  by_cases hr : Room n k
  · have e := bytesR_ok hk hr
    obtain ⟨h0, h1, h2⟩ := hr
    obtain ⟨m, rfl⟩ := Int.eq_ofNat_of_zero_le h0
    obtain ⟨j, rfl⟩ := Int.eq_ofNat_of_zero_le (show 0 ≤ k by omega)
    exact .inr (.inr ⟨m, j, rfl, rfl, by omega, by omega, by omega, h2, e⟩)
  · exact .inr (.inl ⟨by omega, hr, bytesR_num hk hr⟩)

theorem bytesR_of {m j : Nat} (h1 : 1 ≤ j) (h2 : j ≤ 8) (h3 : m ≤ 281474976710655) (h4 : m < 256 ^ j) : bytesR m j = (⟨(beL m j).toArray⟩, 0) :=
  bytesR_ok (by omega) ⟨by omega, by omega, h4⟩
end Go.Proofs.YtmbmolgkccjedaaGreatDoor

/- Heads and their bytes, as lists: plain mathematics (over stage 1's beL and valL). -/
set_option linter.unusedVariables false
set_option linter.unusedSimpArgs false
namespace Go.Proofs.YtmbmolgkccjedaaGreatDoor

/-- How many bytes an argument asks for, behind the first one; and what the first one has beside the major. -/
def wid (n : Nat) : Nat := if n < 24 then 0 else if n < 256 then 1 else if n < 65536 then 2 else if n < 4294967296 then 4 else 8
def tagN (n : Nat) : Nat := if n < 24 then n else if n < 256 then 24 else if n < 65536 then 25 else if n < 4294967296 then 26 else 27
/-- The width that a first byte tells. -/
def widT (t : Nat) : Nat := if t < 24 then 0 else if t = 24 then 1 else if t = 25 then 2 else if t = 26 then 4 else 8
/-- Is it a major? -/
def Maj (m : Nat) : Prop := m = 0 ∨ 2 ≤ m ∧ m ≤ 4
instance (m : Nat) : Decidable (Maj m) := by unfold Maj; infer_instance
/-- A head's bytes. -/
def headL (m n : Nat) : List UInt8 := UInt8.ofNat (32 * m + tagN n) :: beL n (wid n)

theorem headL_length (m n : Nat) : (headL m n).length = 1 + wid n := by simp [headL, beL_length]; omega
theorem wid_cases (n : Nat) : (n < 24 ∧ wid n = 0 ∧ tagN n = n) ∨ (24 ≤ n ∧ n < 256 ∧ wid n = 1 ∧ tagN n = 24) ∨ (256 ≤ n ∧ n < 65536 ∧ wid n = 2 ∧ tagN n = 25) ∨ (65536 ≤ n ∧ n < 4294967296 ∧ wid n = 4 ∧ tagN n = 26) ∨ (4294967296 ≤ n ∧ wid n = 8 ∧ tagN n = 27) := by
  unfold wid tagN
  by_cases h1 : n < 24
  · exact .inl ⟨h1, if_pos h1, if_pos h1⟩
  · by_cases h2 : n < 256
    · exact .inr (.inl ⟨by omega, h2, by simp [h1, h2], by simp [h1, h2]⟩)
    · by_cases h3 : n < 65536
      · exact .inr (.inr (.inl ⟨by omega, h3, by simp [h1, h2, h3], by simp [h1, h2, h3]⟩))
      · by_cases h4 : n < 4294967296
        · exact .inr (.inr (.inr (.inl ⟨by omega, h4, by simp [h1, h2, h3, h4], by simp [h1, h2, h3, h4]⟩)))
        · exact .inr (.inr (.inr (.inr ⟨by omega, by simp [h1, h2, h3, h4], by simp [h1, h2, h3, h4]⟩)))
theorem wid_room {n : Nat} (h : n ≤ 281474976710655) (h24 : 24 ≤ n) : n < 256 ^ wid n := by
  rcases wid_cases n with ⟨h1, h2, _⟩ | ⟨h0, h1, h2, _⟩ | ⟨h0, h1, h2, _⟩ | ⟨h0, h1, h2, _⟩ | ⟨h0, h2, _⟩ <;> rw [h2] <;> simp <;> omega
theorem wid_le (n : Nat) : wid n ≤ 8 := by
  rcases wid_cases n with ⟨h1, h2, _⟩ | ⟨h0, h1, h2, _⟩ | ⟨h0, h1, h2, _⟩ | ⟨h0, h1, h2, _⟩ | ⟨h0, h2, _⟩ <;> omega
theorem wid_mono {n m : Nat} (h : n ≤ m) : wid n ≤ wid m := by
  rcases wid_cases n with ⟨h1, h2, _⟩ | ⟨h0, h1, h2, _⟩ | ⟨h0, h1, h2, _⟩ | ⟨h0, h1, h2, _⟩ | ⟨h0, h2, _⟩ <;> rcases wid_cases m with ⟨k1, k2, _⟩ | ⟨k0, k1, k2, _⟩ | ⟨k0, k1, k2, _⟩ | ⟨k0, k1, k2, _⟩ | ⟨k0, k2, _⟩ <;> omega
theorem tag_le (n : Nat) : tagN n ≤ 27 := by
  rcases wid_cases n with ⟨h1, _, h2⟩ | ⟨h0, h1, _, h2⟩ | ⟨h0, h1, _, h2⟩ | ⟨h0, h1, _, h2⟩ | ⟨h0, _, h2⟩ <;> omega
theorem widT_tag (n : Nat) : widT (tagN n) = wid n := by
  rcases wid_cases n with ⟨h1, h3, h2⟩ | ⟨h0, h1, h3, h2⟩ | ⟨h0, h1, h3, h2⟩ | ⟨h0, h1, h3, h2⟩ | ⟨h0, h3, h2⟩ <;> rw [h2, h3] <;> unfold widT
  · exact if_pos h1
  all_goals decide

/-- What is decoded at the beginning of a row of bytes: an error's number; or a major, a number, and how many bytes. -/
def hdL : List UInt8 → Except Int (Nat × Nat × Nat)
  | [] => .error 11
  | b :: r => if ¬ Maj (b.toNat / 32) ∨ 27 < b.toNat % 32 then .error 20 else
      if b.toNat % 32 < 24 then .ok (b.toNat / 32, b.toNat % 32, 1) else
      if r.length < widT (b.toNat % 32) then .error 11 else
      if 281474976710655 < valL (r.take (widT (b.toNat % 32))) then .error 10 else
      if wid (valL (r.take (widT (b.toNat % 32)))) ≠ widT (b.toNat % 32) then .error 20 else
      .ok (b.toNat / 32, valL (r.take (widT (b.toNat % 32))), 1 + widT (b.toNat % 32))

theorem first_byte_h {m n : Nat} (hm : Maj m) : (UInt8.ofNat (32 * m + tagN n)).toNat / 32 = m ∧ (UInt8.ofNat (32 * m + tagN n)).toNat % 32 = tagN n := by
  have h1 := tag_le n
  have h2 : m ≤ 4 := by unfold Maj at hm; omega
  have e : (UInt8.ofNat (32 * m + tagN n)).toNat = 32 * m + tagN n := by simp; omega
  rw [e]
  omega
theorem hdL_head {m n : Nat} (hm : Maj m) (hn : n ≤ 281474976710655) (r : List UInt8) : hdL (headL m n ++ r) = .ok (m, n, (headL m n).length) := by
  obtain ⟨e1, e2⟩ := first_byte_h (n := n) hm
  have ht := tag_le n
  rw [headL_length]
  unfold headL
  rw [List.cons_append, hdL, e1, e2, if_neg (by simp [hm]; omega)]
  by_cases h24 : n < 24
  · have hw : wid n = 0 := by unfold wid; exact if_pos h24
    have htg : tagN n = n := by unfold tagN; exact if_pos h24
    rw [htg, if_pos h24, hw]
  · have htg : ¬ tagN n < 24 := by
      rcases wid_cases n with ⟨h1, _, h2⟩ | ⟨h0, h1, _, h2⟩ | ⟨h0, h1, _, h2⟩ | ⟨h0, h1, _, h2⟩ | ⟨h0, _, h2⟩ <;> omega
    have e3 : (beL n (wid n) ++ r).take (wid n) = beL n (wid n) := by
      rw [List.take_append_of_le_length (by rw [beL_length]; omega), List.take_of_length_le (by rw [beL_length]; omega)]
    rw [if_neg htg, widT_tag, if_neg (by rw [List.length_append, beL_length]; omega), e3, valL_beL_of_lt (wid_room hn (by omega)), if_neg (by omega), if_neg (by simp)]
theorem hdL_back {l : List UInt8} {m n k : Nat} (h : hdL l = .ok (m, n, k)) : Maj m ∧ n ≤ 281474976710655 ∧ k = (headL m n).length ∧ k ≤ l.length ∧ l.take k = headL m n := by
  rcases l with _ | ⟨b, r⟩
  · cases h
  · have hb := b.toNat_lt
    rw [hdL] at h
    by_cases h1 : ¬ Maj (b.toNat / 32) ∨ 27 < b.toNat % 32
    · rw [if_pos h1] at h; cases h
    · rw [if_neg h1] at h
      have hm : Maj (b.toNat / 32) := Decidable.byContradiction fun e => h1 (.inl e)
      have ht : b.toNat % 32 ≤ 27 := by rcases Nat.lt_or_ge 27 (b.toNat % 32) with e | e; exact absurd (.inr e) h1; exact e
      have hbb : UInt8.ofNat b.toNat = b := by simp
      by_cases h2 : b.toNat % 32 < 24
      · rw [if_pos h2] at h
        simp only [Except.ok.injEq, Prod.mk.injEq] at h
        obtain ⟨rfl, rfl, rfl⟩ := h
        have hw : wid (b.toNat % 32) = 0 := by unfold wid; exact if_pos h2
        have htg : tagN (b.toNat % 32) = b.toNat % 32 := by unfold tagN; exact if_pos h2
        refine ⟨hm, by omega, by rw [headL_length, hw], by simp, ?_⟩
        unfold headL
        rw [hw, htg, show 32 * (b.toNat / 32) + b.toNat % 32 = b.toNat by omega, hbb]
        rfl
      · rw [if_neg h2] at h
        by_cases h3 : r.length < widT (b.toNat % 32)
        · rw [if_pos h3] at h; cases h
        · rw [if_neg h3] at h
          by_cases h4 : 281474976710655 < valL (r.take (widT (b.toNat % 32)))
          · rw [if_pos h4] at h; cases h
          · rw [if_neg h4] at h
            by_cases h5 : wid (valL (r.take (widT (b.toNat % 32)))) ≠ widT (b.toNat % 32)
            · rw [if_pos h5] at h; cases h
            · rw [if_neg h5] at h
              simp only [Except.ok.injEq, Prod.mk.injEq] at h
              obtain ⟨rfl, rfl, rfl⟩ := h
              have h5' : wid (valL (r.take (widT (b.toNat % 32)))) = widT (b.toNat % 32) := Decidable.byContradiction h5
              have hl : (r.take (widT (b.toNat % 32))).length = widT (b.toNat % 32) := by rw [List.length_take]; omega
              have htag : tagN (valL (r.take (widT (b.toNat % 32)))) = b.toNat % 32 := by
                have hT : (b.toNat % 32 = 24 ∧ widT (b.toNat % 32) = 1) ∨ (b.toNat % 32 = 25 ∧ widT (b.toNat % 32) = 2) ∨ (b.toNat % 32 = 26 ∧ widT (b.toNat % 32) = 4) ∨ (b.toNat % 32 = 27 ∧ widT (b.toNat % 32) = 8) := by
                  have : b.toNat % 32 = 24 ∨ b.toNat % 32 = 25 ∨ b.toNat % 32 = 26 ∨ b.toNat % 32 = 27 := by omega
                  rcases this with e | e | e | e <;> rw [e] <;> decide
                generalize valL (r.take (widT (b.toNat % 32))) = v at *
                rcases wid_cases v with ⟨k1, k2, k3⟩ | ⟨k0, k1, k2, k3⟩ | ⟨k0, k1, k2, k3⟩ | ⟨k0, k1, k2, k3⟩ | ⟨k0, k2, k3⟩ <;> omega
              refine ⟨hm, by omega, by rw [headL_length, h5'], by simp; omega, ?_⟩
              unfold headL
              rw [htag, h5', show 32 * (b.toNat / 32) + b.toNat % 32 = b.toNat by omega, hbb, beL_valL _ _ hl, Nat.add_comm, List.take_succ_cons]
theorem hdL_err {l : List UInt8} {e : Int} (h : hdL l = .error e) : e = 11 ∨ e = 20 ∨ e = 10 := by
  rcases l with _ | ⟨b, r⟩
  · exact .inl (by injection h with h; exact h.symm)
  · rw [hdL] at h
    repeat' split at h
    all_goals first | cases h | skip
    all_goals first | exact .inl rfl | exact .inr (.inl rfl) | exact .inr (.inr rfl)
theorem head_begins {a b n m : Nat} (ha : Maj a) (hb : Maj b) (hn : n ≤ 281474976710655) (hm : m ≤ 281474976710655) : (headL b m).take (headL a n).length = headL a n ↔ a = b ∧ n = m := by
  constructor
  · intro h
    have e : headL b m = headL a n ++ (headL b m).drop (headL a n).length := by
      conv => lhs; rw [← List.take_append_drop (headL a n).length (headL b m)]
      rw [h]
    have h1 := hdL_head hb hm []
    rw [List.append_nil, e, hdL_head ha hn] at h1
    simp only [Except.ok.injEq, Prod.mk.injEq] at h1
    exact ⟨h1.1, h1.2.1⟩
  · rintro ⟨rfl, rfl⟩
    exact List.take_length
theorem head_short {m n j : Nat} (hm : Maj m) (hn : n ≤ 281474976710655) (h : j < (headL m n).length) : hdL ((headL m n).take j) = .error 11 := by
  rcases j with _ | j
  · rfl
  · obtain ⟨e1, e2⟩ := first_byte_h (n := n) hm
    have ht := tag_le n
    rw [headL_length] at h
    have h24 : 24 ≤ n := by
      rcases wid_cases n with ⟨h1, h2, _⟩ | ⟨h0, _⟩ | ⟨h0, _⟩ | ⟨h0, _⟩ | ⟨h0, _⟩ <;> omega
    have htg : ¬ tagN n < 24 := by
      rcases wid_cases n with ⟨h1, _, h2⟩ | ⟨h0, h1, _, h2⟩ | ⟨h0, h1, _, h2⟩ | ⟨h0, h1, _, h2⟩ | ⟨h0, _, h2⟩ <;> omega
    unfold headL
    rw [List.take_succ_cons, hdL, e1, e2, if_neg (by simp [hm]; omega), if_neg htg, widT_tag, if_pos (by rw [List.length_take, beL_length]; omega)]
end Go.Proofs.YtmbmolgkccjedaaGreatDoor

/- Contract of shortest of package head: the head with the fewest bytes of a major and a number. -/
set_option linter.unusedVariables false
set_option linter.unusedSimpArgs false
namespace Go.Proofs.YtmbmolgkccjedaaGreatDoor
open Go.RowKit Go.Shelf

attribute [local go_sem] Oper.semAt_some

theorem keeps_below {W W' : World} (hb : Below W.heap.size W W') : KeepsOthers W W' := ⟨hb.size, fun k o hk _ => (hb.block k (lt_of_heap hk)).trans hk⟩

/-- What holds of shortest's variables: the number's box, the answer's, the head's. -/
structure HS (s : Nat) (m a n : Int) (r0 r1 r2 : Value) (W : World) : Prop where
  cn : W.cell? ⟨s, 0, none⟩ = some (.int .i64 n)
  c0 : W.cell? ⟨s + 1, 0, none⟩ = some r0
  c1 : W.cell? ⟨s + 1, 1, none⟩ = some r1
  c2 : W.cell? ⟨s + 1, 2, none⟩ = some r2
  f0 : W.frozen? ⟨s + 1, 0, none⟩ = false
  f1 : W.frozen? ⟨s + 1, 1, none⟩ = false
  f2 : W.frozen? ⟨s + 1, 2, none⟩ = false
  h0 : W.cell? ⟨s + 1 + 1, 0, none⟩ = some (.int .i64 m)
  h1 : W.cell? ⟨s + 1 + 1, 1, none⟩ = some (.int .i64 a)
  h2 : W.cell? ⟨s + 1 + 1, 2, none⟩ = some (.int .i64 n)
  fh : W.frozen? ⟨s + 1 + 1, 1, none⟩ = false

theorem HS.kept {s : Nat} {m a n : Int} {r0 r1 r2 : Value} {W W' : World} {row : Option Nat} (h : HS s m a n r0 r1 r2 W) (hg : W.grownBy W' row) (hr : ∀ r, row = some r → ∃ o : Obj, W.heap[r]? = some o ∧ o.isCells = false) : HS s m a n r0 r1 r2 W' :=
  ⟨cell_kept h.cn hg hr, cell_kept h.c0 hg hr, cell_kept h.c1 hg hr, cell_kept h.c2 hg hr, (frozen_kept h.c0 hg hr).trans h.f0, (frozen_kept h.c1 hg hr).trans h.f1, (frozen_kept h.c2 hg hr).trans h.f2, cell_kept h.h0 hg hr, cell_kept h.h1 hg hr, cell_kept h.h2 hg hr, (frozen_kept h.h1 hg hr).trans h.fh⟩
theorem HS.below {s : Nat} {m a n : Int} {r0 r1 r2 : Value} {W W' : World} (h : HS s m a n r0 r1 r2 W) (hb : Below W.heap.size W W') : HS s m a n r0 r1 r2 W' := by
  have c : ∀ {p : Addr} {v : Value}, W.cell? p = some v → W'.cell? p = some v := fun e => (hb.cell (World.block_lt_of_cell? _ _ e)).trans e
  have f : ∀ {p : Addr} {v : Value}, W.cell? p = some v → W.frozen? p = false → W'.frozen? p = false := fun e k => (hb.frozen (World.block_lt_of_cell? _ _ e)).trans k
  exact ⟨c h.cn, c h.c0, c h.c1, c h.c2, f h.c0 h.f0, f h.c1 h.f1, f h.c2 h.f2, c h.h0, c h.h1, c h.h2, f h.h1 h.fh⟩
theorem HS.setA {s : Nat} {m a n : Int} {r0 r1 r2 : Value} {W : World} (h : HS s m a n r0 r1 r2 W) (a' : Int) : HS s m a' n r0 r1 r2 (W.setCell ⟨s + 1 + 1, 1, none⟩ (.int .i64 a')) := by
  refine ⟨?_, ?_, ?_, ?_, ?_, ?_, ?_, ?_, World.cell?_setCell_same' _ _ _ (by rw [h.h1]; rfl), ?_, ?_⟩
  · rw [← h.cn]; simp [go_sem]
  · rw [← h.c0]; simp [go_sem]
  · rw [← h.c1]; simp [go_sem]
  · rw [← h.c2]; simp [go_sem]
  · rw [World.frozen?_setCell]; exact h.f0
  · rw [World.frozen?_setCell]; exact h.f1
  · rw [World.frozen?_setCell]; exact h.f2
  · rw [← h.h0]; simp [go_sem]
  · rw [← h.h2]; simp [go_sem]
  · rw [World.frozen?_setCell]; exact h.fh

theorem HS.setR {s : Nat} {m a n : Int} {r0 r1 r2 : Value} {W : World} (h : HS s m a n r0 r1 r2 W) (x y z : Value) : HS s m a n x y z (((W.setCell ⟨s + 1, 0, none⟩ x).setCell ⟨s + 1, 1, none⟩ y).setCell ⟨s + 1, 2, none⟩ z) := by
  have d0 := h.c0
  have d1 := h.c1
  have d2 := h.c2
  refine ⟨?_, ?_, ?_, ?_, ?_, ?_, ?_, ?_, ?_, ?_, ?_⟩
  · rw [← h.cn]; simp [go_sem]
  · simp [go_sem, d0]
  · simp [go_sem, d1]
  · simp [go_sem, d2]
  · simp only [World.frozen?_setCell]; exact h.f0
  · simp only [World.frozen?_setCell]; exact h.f1
  · simp only [World.frozen?_setCell]; exact h.f2
  · rw [← h.h0]; simp [go_sem]
  · rw [← h.h1]; simp [go_sem]
  · rw [← h.h2]; simp [go_sem]
  · simp only [World.frozen?_setCell]; exact h.fh
theorem short_res {B : Nat} {m a n : Int} {x y z : Value} {W : World} {tmps : Array Value} (h : HS B m a n x y z W) (h4 : tmps[4]?.getD undef = .pointer (some ⟨B + 1, 0, none⟩) := by rfl) : (results Tryz.f130 tmps).run Tryz.prog W = .ok (.agg #[x, y, z]) W := by
  have d0 := h.c0
  have d1 := h.c1
  have d2 := h.c2
  simp [results, Tryz.results130, go_sem, h4, d0, d1, d2]
theorem heap_set3 {W : World} {B D : Nat} {o : Obj} {x y z : Value} (h : W.heap[D]? = some o) (hne : B ≠ D) : (((W.setCell ⟨B, 0, none⟩ x).setCell ⟨B, 1, none⟩ y).setCell ⟨B, 2, none⟩ z).heap[D]? = some o := by
  rw [Below.heap_setCell _ _ _ _ (by simp; omega), Below.heap_setCell _ _ _ _ (by simp; omega), Below.heap_setCell _ _ _ _ (by simp; omega)]
  exact h

/-- Has the width room for the number? -/
def roomB (n k : Int) : Bool := (bytesR n k).2 == 0
theorem roomB_of {n k : Nat} (h1 : 1 ≤ k) (h8 : k ≤ 8) (hn : n ≤ 281474976710655) (h : n < 256 ^ k) : roomB n k = true := by unfold roomB; rw [bytesR_of h1 h8 hn h]; rfl
theorem roomB_not {n k : Nat} (h1 : 1 ≤ k) (h8 : k ≤ 8) (h : 256 ^ k ≤ n) : roomB n k = false := by
  unfold roomB; rw [bytesR_num (by omega) (fun hr => by have := hr.2.2; simp only [Int.toNat_natCast] at this; omega)]; rfl

/-- Of the widths that were gone through the last one alone has room: what is added is the number's own. -/
theorem short_tag {n k : Nat} {x : Int × Int} (h24 : 24 ≤ n) (hn : n ≤ 281474976710655) (hl : (wideL.take k).getLast? = some x) (hp : ∀ y ∈ (wideL.take k).dropLast, roomB n y.2 = false) (hx : roomB n x.2 = true) : x.1 = (tagN n : Nat) := by
  have r1 : 256 ≤ n → roomB n 1 = false := fun h => roomB_not (k := 1) (by omega) (by omega) (by simpa using h)
  have r2 : 65536 ≤ n → roomB n 2 = false := fun h => roomB_not (k := 2) (by omega) (by omega) (by simpa using h)
  have r4 : 4294967296 ≤ n → roomB n 4 = false := fun h => roomB_not (k := 4) (by omega) (by omega) (by simpa using h)
  have s1 : n < 256 → roomB n 1 = true := fun h => roomB_of (k := 1) (by omega) (by omega) hn (by simpa using h)
  have s2 : n < 65536 → roomB n 2 = true := fun h => roomB_of (k := 2) (by omega) (by omega) hn (by simpa using h)
  have s4 : n < 4294967296 → roomB n 4 = true := fun h => roomB_of (k := 4) (by omega) (by omega) hn (by simpa using h)
  have key : (x = (24, 1) ∧ n < 256) ∨ (x = (25, 2) ∧ 256 ≤ n ∧ n < 65536) ∨ (x = (26, 4) ∧ 65536 ≤ n ∧ n < 4294967296) ∨ (x = (27, 8) ∧ 4294967296 ≤ n) := by
    rcases k with _ | _ | _ | _ | k
    · cases hl
    · obtain rfl : (24, 1) = x := Option.some.inj hl
      refine .inl ⟨rfl, Nat.lt_of_not_le fun h => ?_⟩
      rw [r1 h] at hx; cases hx
    · obtain rfl : (25, 2) = x := Option.some.inj hl
      have p1 := hp (24, 1) (List.mem_singleton.2 rfl)
      refine .inr (.inl ⟨rfl, Nat.le_of_not_lt fun h => ?_, Nat.lt_of_not_le fun h => ?_⟩)
      · rw [s1 h] at p1; cases p1
      · rw [r2 h] at hx; cases hx
    · obtain rfl : (26, 4) = x := Option.some.inj hl
      have p2 := hp (25, 2) (show (25, 2) ∈ [((24 : Int), (1 : Int)), (25, 2)] by simp)
      refine .inr (.inr (.inl ⟨rfl, Nat.le_of_not_lt fun h => ?_, Nat.lt_of_not_le fun h => ?_⟩))
      · rw [s2 h] at p2; cases p2
      · rw [r4 h] at hx; cases hx
    · have e : wideL.take (k + 4) = wideL := List.take_of_length_le (by simp [wideL])
      rw [e] at hl hp
      obtain rfl : (27, 8) = x := Option.some.inj hl
      have p4 := hp (26, 4) (show (26, 4) ∈ [((24 : Int), (1 : Int)), (25, 2), (26, 4)] by simp)
      refine .inr (.inr (.inr ⟨rfl, Nat.le_of_not_lt fun h => ?_⟩))
      rw [s4 h] at p4; cases p4
  rcases wid_cases n with ⟨k1, _, k3⟩ | ⟨k0, k1, _, k3⟩ | ⟨k0, k1, _, k3⟩ | ⟨k0, k1, _, k3⟩ | ⟨k0, _, k3⟩ <;> rcases key with ⟨rfl, j1⟩ | ⟨rfl, j0, j1⟩ | ⟨rfl, j0, j1⟩ | ⟨rfl, j0⟩ <;> first | omega | (rw [k3]; rfl)
theorem short_all {n : Nat} (hn : n ≤ 281474976710655) (h : ∀ y ∈ wideL, roomB n y.2 = false) : False := by
  have h8 := h (27, 8) (by decide)
  rw [show ((27, 8) : Int × Int).2 = ((8 : Nat) : Int) from rfl, roomB_of (by omega) (by omega) hn (by have : (281474976710655 : Nat) < 256 ^ 8 := by decide
                                                                                                       omega)] at h8
  cases h8

theorem tag_small {n : Nat} (h : n < 24) : tagN n = n := if_pos h

set_option maxRecDepth 100000 in
set_option maxHeartbeats 2000000 in
theorem shortest_small (m : Int) (n : Nat) (w : World) (h24 : n < 24) :
    Calls Tryz.prog 130 #[.int .i64 m, .int .i64 (n : Int)] w fun e w' => e = .returned (.agg #[.int .i64 m, .int .i64 (n : Int), .int .i64 (n : Int)]) ∧ Below w.heap.size w w' := by
  have hb : decide ((n : Int) < 24) = true := by simp; omega
  refine (callsIn_wide (n := 9)).1 ?_
  refine callsIn_of_wp_marks Tryz.func130 rfl trivial ?_ rfl
  simp only [Tryz.ntmps130, List.size_toArray, List.length_cons, List.length_nil, Nat.reduceAdd, Nat.reduceSub, Array.replicate_succ, Array.replicate_zero, List.push_toArray, List.append_toArray, List.nil_append, List.cons_append]
  gi_wp2
  refine wpIn_scope_wide ?_
  gi_wp2
  exact ⟨.agg #[.int .i64 m, .int .i64 (n : Int), .int .i64 (n : Int)], by simp [results, Tryz.results130, go_sem], rfl, (((Below.refl _ _).alloc (Nat.le_refl _) _).alloc (by simp) _).alloc (by simp; omega) _⟩

set_option maxRecDepth 100000 in
set_option maxHeartbeats 2000000 in
theorem shortest_wide (a0 a1 a2 b0 b1 b2 b3 : Addr) (m : Int) (n : Nat) (w : World) (hN : Env a0 a1 a2 w) (hE : EnvH b0 b1 b2 b3 w) (h24 : 24 ≤ n) (hn : n ≤ 281474976710655) :
    Calls Tryz.prog 130 #[.int .i64 m, .int .i64 (n : Int)] w fun e w' => e = .returned (.agg #[.int .i64 m, .int .i64 ((tagN n : Nat) : Int), .int .i64 (n : Int)]) ∧ Below w.heap.size w w' := by
  have hb : decide ((n : Int) < 24) = false := by simp; omega
  refine (callsIn_wide (n := 9)).1 ?_
  refine callsIn_of_wp_marks Tryz.func130 rfl trivial ?_ rfl
  simp only [Tryz.ntmps130, List.size_toArray, List.length_cons, List.length_nil, Nat.reduceAdd, Nat.reduceSub, Array.replicate_succ, Array.replicate_zero, List.push_toArray, List.append_toArray, List.nil_append, List.cons_append]
  gi_wp2
  refine wpIn_scope_wide ?_
  gi_wp2
  refine wpIn_label ?_
  gi_wp2_with (refine ⟨trivial, ?_⟩; gi_at_call 148; refine (eachWide_in Fence.wide _ trivial rfl _).mono ?_; rintro e w' ⟨rfl, rfl⟩)
  have hn0 : (((w.alloc (.cells #[.int .i64 (n : Int)] 3)).alloc (.cells #[.int .i64 0, .int .i64 0, .int .i64 0] 209)).alloc (.cells #[.int .i64 m, .int .i64 (n : Int), .int .i64 (n : Int)] 209)).heap.size = w.heap.size + 1 + 1 + 1 := by simp
  have hS0 : HS w.heap.size m n n (.int .i64 0) (.int .i64 0) (.int .i64 0) (((w.alloc (.cells #[.int .i64 (n : Int)] 3)).alloc (.cells #[.int .i64 0, .int .i64 0, .int .i64 0] 209)).alloc (.cells #[.int .i64 m, .int .i64 (n : Int), .int .i64 (n : Int)] 209)) := by constructor <;> go_simp
  have hB0 : Below w.heap.size w (((w.alloc (.cells #[.int .i64 (n : Int)] 3)).alloc (.cells #[.int .i64 0, .int .i64 0, .int .i64 0] 209)).alloc (.cells #[.int .i64 m, .int .i64 (n : Int), .int .i64 (n : Int)] 209)) := (((Below.refl _ w).alloc (Nat.le_refl _) _).alloc (by simp) _).alloc (by simp; omega) _
  have hE0 := hE.below hB0
  generalize (((w.alloc (.cells #[.int .i64 (n : Int)] 3)).alloc (.cells #[.int .i64 0, .int .i64 0, .int .i64 0] 209)).alloc (.cells #[.int .i64 m, .int .i64 (n : Int), .int .i64 (n : Int)] 209)) = w0 at *
  refine wpIn_rangeFunc_ownH rfl (by omega) (gf := 169) (lb := #[]) rfl trivial (enters_of Tryz.func169 (by kernel_rfl) rfl)
    (wide_stops Fence.wide _ trivial rfl (by omega) b0 b1 b2 b3 _ hE0) (fun _ _ => trivial) (fun _ _ _ _ _ _ _ _ => trivial) (Below.refl _ _) (fun _ => rfl)
    (fun pre W => ((∃ a : Int, HS w.heap.size m a n (.int .i64 0) (.int .i64 0) (.int .i64 0) W) ∧ ∀ y ∈ pre, roomB n y.2 = false) ∧ Below w.heap.size w W)
    (fun c pre W => (c = .exit 0 ∧ ∃ x : Int × Int, pre.getLast? = some x ∧ (∀ y ∈ pre.dropLast, roomB n y.2 = false) ∧ roomB n x.2 = true ∧ HS w.heap.size m x.1 n (.int .i64 0) (.int .i64 0) (.int .i64 0) W) ∧ Below w.heap.size w W)
    (OwnFrom.and (Own.from (fun s A B row hs hg hr => ⟨hs.1.elim fun a ha => ⟨a, ha.kept hg hr⟩, hs.2⟩) _) (ownFrom_below (Nat.le_refl _) (by omega)))
    (fun c => OwnFrom.and (Own.from (fun s A B row hs hg hr => ⟨hs.1, hs.2.elim fun x hx => ⟨x, hx.1, hx.2.1, hx.2.2.1, hx.2.2.2.kept hg hr⟩⟩) _) (ownFrom_below (Nat.le_refl _) (by omega)))
    ⟨⟨⟨n, hS0⟩, fun x hx => by cases hx⟩, hB0⟩
    (fun x a' W => ∃ B : Nat, a' = { tmps := #[.int .i64 m, .int .i64 (n : Int), undef, .pointer (some ⟨w.heap.size, 0, none⟩), .pointer (some ⟨w.heap.size + 1, 0, none⟩), .pointer (some ⟨w.heap.size + 1 + 1, 0, none⟩), .pointer (some ⟨B, 0, none⟩), undef, undef, .int .i64 m, .int .i64 (n : Int), .int .i64 (n : Int), .agg #[.int .i64 m, .int .i64 (n : Int), .int .i64 (n : Int)], .int .i64 (n : Int), .bool false, undef, .func (.func 169) #[] #[], .agg #[.int .i64 x.1, .int .i64 x.2], undef, undef, undef, undef, undef, undef, undef, undef, undef, undef, undef, undef, undef], defers := [] } ∧ W.cell? ⟨B, 0, none⟩ = some (.int .i64 x.1) ∧ W.cell? ⟨B, 1, none⟩ = some (.int .i64 x.2) ∧ w.heap.size + 1 + 1 < B)
    (fun x a' => Own.from (fun s A B row hs hg hr => hs.elim fun b hb => ⟨b, hb.1, cell_kept hb.2.1 hg hr, cell_kept hb.2.2.1 hg hr, hb.2.2.2⟩) _) ?assign ?body ?done ?stop
  case assign =>
    rintro l pre x W K ⟨⟨⟨a, hS⟩, h4⟩, hB⟩ hK
    have hS' := hS.below ((Below.refl _ W).alloc (Nat.le_refl _) (.cells #[.int .i64 x.1, .int .i64 x.2] 239))
    have hlt := World.block_lt_of_cell? _ _ hS.h0
    simp only at hlt
    have H4 := Lib.hid h4
    clear h4
    gi_wp2
    exact hK _ _ ((KeepsOthers.alloc _ _).from _) trivial ⟨⟨⟨a, hS'⟩, H4.out⟩, hB.alloc hB.size _⟩ ⟨W.heap.size, rfl, by go_simp, by go_simp, hlt⟩
  case body =>
    rintro l pre x a' W _ _ ⟨⟨⟨a, hS⟩, h4⟩, hB⟩ ⟨B, rfl, e0, e1, hlt⟩ _
    have H4 := Lib.hid h4
    clear h4
    have i1 := hS.cn
    have i2 := hS.h1
    have i3 := hS.fh
    have hne : B ≠ w.heap.size + 1 + 1 := by omega
    have hne' : w.heap.size + 1 + 1 ≠ B := by omega
    have hSA := hS.setA x.1
    have hBA := hB.setCell (p := ⟨w.heap.size + 1 + 1, 1, none⟩) (by simp; omega) (.int .i64 x.1)
    gi_wp2_with fail
    refine ⟨trivial, ?_⟩
    refine (CallsIn.inRound l (callsIn_wide.2 (bytes_any a0 a1 a2 _ _ _ (hN.below hBA)))).mono ?_
    rintro e W2 ⟨rfl, hb2⟩
    have hS2 := hSA.below hb2
    have hB2 := hBA.trans (hb2.mono hBA.size)
    have hk2 : KeepsFrom w0.heap.size W W2 := ((KeepsOthers.setCell _ _ _).trans (keeps_below hb2)).from _
    clear hSA hBA hb2 hS i1 i2 i3 e0 e1
    have hRm : ((bytesR n x.2).2 == 0) = roomB n x.2 := rfl
    have HRm := Lib.hid hRm
    clear hRm
    by_cases hr : roomB n x.2 = true
    · rw [hr] at HRm
      have hz := HRm.out
      have HR := Lib.hid hr
      clear hr HRm
      gi_wp2
      exact ⟨hk2, ⟨rfl, x, by simp, by rw [List.dropLast_concat]; exact H4.out, HR.out, hS2⟩, hB2⟩
    · replace hr : roomB n x.2 = false := by simpa using hr
      rw [hr] at HRm
      have hz := HRm.out
      have HR := Lib.hid hr
      clear hr HRm
      gi_wp2
      refine ⟨hk2, trivial, ⟨⟨_, hS2⟩, fun y hy => ?_⟩, hB2⟩
      rcases List.mem_append.1 hy with hy | hy
      · exact H4.out y hy
      · obtain rfl := List.mem_singleton.1 hy
        exact HR.out
  case done =>
    rintro D ys W hD rfl ⟨⟨_, h4⟩, hB⟩ hK
    exact (short_all hn h4).elim
  case stop =>
    rintro D c pre W hD ⟨k, rfl⟩ ⟨⟨rfl, x, hl, hp, hx, hS⟩, hB⟩ hK
    have hT := short_tag h24 hn hl hp hx
    rw [hT] at hS
    clear hT hl hp hx
    have i0 := hS.h0
    have i1 := hS.h1
    have i2 := hS.h2
    have j0 := hS.c0
    have j1 := hS.c1
    have j2 := hS.c2
    have f0 := hS.f0
    have f1 := hS.f1
    have f2 := hS.f2
    gi_wp2
    refine ⟨by simp, .inl ?_⟩
    have hK2 := heap_set3 (B := w.heap.size + 1) (x := .int .i64 m) (y := .int .i64 ((tagN n : Nat) : Int)) (z := .int .i64 (n : Int)) hK (by omega)
    have hS2 := (hS.setR (.int .i64 m) (.int .i64 ((tagN n : Nat) : Int)) (.int .i64 (n : Int))).kept (grownBy_putObj' _ D (.deferred none)) (fun r e => by cases e; exact ⟨_, hK2, rfl⟩)
    have hB2 := (((hB.setCell (p := ⟨w.heap.size + 1, 0, none⟩) (by simp) (.int .i64 m)).setCell (p := ⟨w.heap.size + 1, 1, none⟩) (by simp) (.int .i64 ((tagN n : Nat) : Int))).setCell (p := ⟨w.heap.size + 1, 2, none⟩) (by simp) (.int .i64 (n : Int))).trans (belowK_b (w := w) (Nat.le_refl _) _ D _ (.deferred none) (by omega) hK2 rfl rfl)
    exact ⟨_, _, rfl, run_takeDeferred hK2, _, short_res hS2, rfl, hB2⟩

theorem shortest_any (a0 a1 a2 b0 b1 b2 b3 : Addr) (m : Int) (n : Nat) (w : World) (hN : Env a0 a1 a2 w) (hE : EnvH b0 b1 b2 b3 w) (hn : n ≤ 281474976710655) :
    Calls Tryz.prog 130 #[.int .i64 m, .int .i64 (n : Int)] w fun e w' => e = .returned (.agg #[.int .i64 m, .int .i64 ((tagN n : Nat) : Int), .int .i64 (n : Int)]) ∧ Below w.heap.size w w' := by
  by_cases h : n < 24
  · rw [tag_small h]; exact shortest_small m n w h
  · exact shortest_wide a0 a1 a2 b0 b1 b2 b3 m n w hN hE (Nat.le_of_not_lt h) hn
end Go.Proofs.YtmbmolgkccjedaaGreatDoor

/- Contract of broken of package head, of two rules and of three: what the first of them that does not hold has. -/
set_option linter.unusedVariables false
set_option linter.unusedSimpArgs false
namespace Go.Proofs.YtmbmolgkccjedaaGreatDoor
open Go.RowKit

/-- The value of a sentinel. -/
abbrev sentV (a : Addr) : Value := .iface 299 (.pointer (some a))

/-- What the first of the rules that does not hold has. -/
def brk2 (p0 p1 : Bool) (e0 e1 : Addr) : Value := (if p0 = false then sentV e0 else (if p1 = false then sentV e1 else .nilIface))

set_option maxRecDepth 100000 in
set_option maxHeartbeats 2000000 in
theorem broken2_any (R : Nat) (p0 p1 : Bool) (e0 e1 : Addr) (w : World) (c0 : w.cell? ⟨R, 0, none⟩ = some (.bool p0)) (d0 : w.cell? ⟨R, 1, none⟩ = some (sentV e0)) (c1 : w.cell? ⟨R, 2, none⟩ = some (.bool p1)) (d1 : w.cell? ⟨R, 3, none⟩ = some (sentV e1)) :
    Calls Tryz.prog 128 #[.slice (some ⟨R, 0, none⟩) 2 2] w fun e w' => e = .returned (brk2 p0 p1 e0 e1) ∧ Below w.heap.size w w' := by
  have hR := World.block_lt_of_cell? _ _ c0
  simp only at hR
  go_enter Tryz.func128, Tryz.ntmps128
  go_wp2
  go_loopw [7] (fun i wr => ∃ k : Nat, k ≤ 2 ∧ i = .int .i64 k ∧ ((0 < k → p0 = true) ∧ (1 < k → p1 = true)) ∧ Below w.heap.size w wr) (fun i _ => 2 - (intOf i).toNat)
  case atStart => exact ⟨0, Nat.zero_le _, rfl, ⟨fun h => by omega, fun h => by omega⟩, Below.refl _ _⟩
  case round =>
    obtain ⟨k, hk, rfl, ⟨q0, q1⟩, hB⟩ := hrel
    replace c0 := (hB.cell (p := ⟨R, 0, none⟩) hR).trans c0
    replace d0 := (hB.cell (p := ⟨R, 1, none⟩) hR).trans d0
    replace c1 := (hB.cell (p := ⟨R, 2, none⟩) hR).trans c1
    replace d1 := (hB.cell (p := ⟨R, 3, none⟩) hR).trans d1
    have hk' : k = 0 ∨ k = 1 ∨ k = 2 := by omega
    clear hk
    rcases hk' with rfl | rfl | rfl
    · clear q0 q1
      cases p0 with
      | false =>
        go_wp2
        go_ret
        exact ⟨by simp [brk2], hB.alloc hB.size _⟩
      | true =>
        go_wp2
        go_roundw
        case rel => exact ⟨1, by omega, rfl, ⟨fun _ => by trivial, fun h => by omega⟩, hB.alloc hB.size _⟩
        case measure => simp [intOf]
    · have t0 := q0 (by omega)
      clear q0 q1
      cases p1 with
      | false =>
        go_wp2
        go_ret
        exact ⟨by simp [brk2, t0], hB.alloc hB.size _⟩
      | true =>
        go_wp2
        go_roundw
        case rel => exact ⟨2, by omega, rfl, ⟨fun _ => t0, fun _ => by trivial⟩, hB.alloc hB.size _⟩
        case measure => simp [intOf]
    · have t0 := q0 (by omega)
      have t1 := q1 (by omega)
      clear q0 q1
      go_wp2
      go_ret
      exact ⟨by simp [brk2, t0, t1], hB⟩

/-- What the first of the rules that does not hold has. -/
def brk3 (p0 p1 p2 : Bool) (e0 e1 e2 : Addr) : Value := (if p0 = false then sentV e0 else (if p1 = false then sentV e1 else (if p2 = false then sentV e2 else .nilIface)))

set_option maxRecDepth 100000 in
set_option maxHeartbeats 2000000 in
theorem broken3_any (R : Nat) (p0 p1 p2 : Bool) (e0 e1 e2 : Addr) (w : World) (c0 : w.cell? ⟨R, 0, none⟩ = some (.bool p0)) (d0 : w.cell? ⟨R, 1, none⟩ = some (sentV e0)) (c1 : w.cell? ⟨R, 2, none⟩ = some (.bool p1)) (d1 : w.cell? ⟨R, 3, none⟩ = some (sentV e1)) (c2 : w.cell? ⟨R, 4, none⟩ = some (.bool p2)) (d2 : w.cell? ⟨R, 5, none⟩ = some (sentV e2)) :
    Calls Tryz.prog 128 #[.slice (some ⟨R, 0, none⟩) 3 3] w fun e w' => e = .returned (brk3 p0 p1 p2 e0 e1 e2) ∧ Below w.heap.size w w' := by
  have hR := World.block_lt_of_cell? _ _ c0
  simp only at hR
  go_enter Tryz.func128, Tryz.ntmps128
  go_wp2
  go_loopw [7] (fun i wr => ∃ k : Nat, k ≤ 3 ∧ i = .int .i64 k ∧ ((0 < k → p0 = true) ∧ (1 < k → p1 = true) ∧ (2 < k → p2 = true)) ∧ Below w.heap.size w wr) (fun i _ => 3 - (intOf i).toNat)
  case atStart => exact ⟨0, Nat.zero_le _, rfl, ⟨fun h => by omega, fun h => by omega, fun h => by omega⟩, Below.refl _ _⟩
  case round =>
    obtain ⟨k, hk, rfl, ⟨q0, q1, q2⟩, hB⟩ := hrel
    replace c0 := (hB.cell (p := ⟨R, 0, none⟩) hR).trans c0
    replace d0 := (hB.cell (p := ⟨R, 1, none⟩) hR).trans d0
    replace c1 := (hB.cell (p := ⟨R, 2, none⟩) hR).trans c1
    replace d1 := (hB.cell (p := ⟨R, 3, none⟩) hR).trans d1
    replace c2 := (hB.cell (p := ⟨R, 4, none⟩) hR).trans c2
    replace d2 := (hB.cell (p := ⟨R, 5, none⟩) hR).trans d2
    have hk' : k = 0 ∨ k = 1 ∨ k = 2 ∨ k = 3 := by omega
    clear hk
    rcases hk' with rfl | rfl | rfl | rfl
    · clear q0 q1 q2
      cases p0 with
      | false =>
        go_wp2
        go_ret
        exact ⟨by simp [brk3], hB.alloc hB.size _⟩
      | true =>
        go_wp2
        go_roundw
        case rel => exact ⟨1, by omega, rfl, ⟨fun _ => by trivial, fun h => by omega, fun h => by omega⟩, hB.alloc hB.size _⟩
        case measure => simp [intOf]
    · have t0 := q0 (by omega)
      clear q0 q1 q2
      cases p1 with
      | false =>
        go_wp2
        go_ret
        exact ⟨by simp [brk3, t0], hB.alloc hB.size _⟩
      | true =>
        go_wp2
        go_roundw
        case rel => exact ⟨2, by omega, rfl, ⟨fun _ => t0, fun _ => by trivial, fun h => by omega⟩, hB.alloc hB.size _⟩
        case measure => simp [intOf]
    · have t0 := q0 (by omega)
      have t1 := q1 (by omega)
      clear q0 q1 q2
      cases p2 with
      | false =>
        go_wp2
        go_ret
        exact ⟨by simp [brk3, t0, t1], hB.alloc hB.size _⟩
      | true =>
        go_wp2
        go_roundw
        case rel => exact ⟨3, by omega, rfl, ⟨fun _ => t0, fun _ => t1, fun _ => by trivial⟩, hB.alloc hB.size _⟩
        case measure => simp [intOf]
    · have t0 := q0 (by omega)
      have t1 := q1 (by omega)
      have t2 := q2 (by omega)
      clear q0 q1 q2
      go_wp2
      go_ret
      exact ⟨by simp [brk3, t0, t1, t2], hB⟩
end Go.Proofs.YtmbmolgkccjedaaGreatDoor

/- The document's own Bytes and Take answer as package nums' do: for every number, width, text, place. -/
set_option linter.unusedVariables false
set_option linter.unusedSimpArgs false
namespace Go.Proofs.YtmbmolgkccjedaaGreatDoor
open Go.RowKit

theorem beL_head (n j : Nat) : beL n (j + 1) = UInt8.ofNat (n / 256 ^ j % 256) :: beL n j := by
  unfold beL
  rw [List.range_succ_eq_map, List.map_cons, List.map_map]
  congr 1
  apply List.map_congr_left
  intro i hi
  rw [List.mem_range] at hi
  simp only [Function.comp, byteAt]
  congr 4
  omega

set_option maxRecDepth 100000 in
set_option maxHeartbeats 1000000 in
theorem refBytes_arg (n k : Int) (w : World) (hk : k < 1 ∨ 8 < k) :
    Calls Tryz.prog 113 #[.int .i64 n, .int .i64 k] w fun e w' => e = .returned (.tuple #[.string ⟨#[]⟩, .int .i64 2]) ∧ Below w.heap.size w w' := by
  have hkk : decide (k < 1) = true ∨ decide (k < 1) = false ∧ decide (8 < k) = true := by
    by_cases h : k < 1
    · exact .inl (by simpa using h)
    · exact .inr ⟨by simpa using h, by simp; omega⟩
  clear hk
  rcases hkk with h | ⟨h1, h⟩
  all_goals
    go_enter Tryz.func113, Tryz.ntmps113
    go_wp2
    go_ret2
    exact ⟨rfl, Below.refl _ _⟩

set_option maxRecDepth 100000 in
set_option maxHeartbeats 1000000 in
theorem refBytes_num (n k : Int) (w : World) (h1 : 1 ≤ k) (h8 : k ≤ 8) (hn : n < 0 ∨ 281474976710655 < n) :
    Calls Tryz.prog 113 #[.int .i64 n, .int .i64 k] w fun e w' => e = .returned (.tuple #[.string ⟨#[]⟩, .int .i64 10]) ∧ Below w.heap.size w w' := by
  have b1 : decide (k < 1) = false := by simp; omega
  have b8 : decide (8 < k) = false := by simp; omega
  have hr := rightB_neg hn
  clear hn
  go_enter Tryz.func113, Tryz.ntmps113
  go_wp2_with (go_at_call 110; refine (refRight_any _ _).mono ?_; rintro e w' ⟨rfl, rfl⟩)
  go_ret2
  exact ⟨rfl, Below.refl _ _⟩

theorem one_byte (x : Nat) (w : World) : (convert 110 9 (.slice (some ⟨w.heap.size, 0, none⟩) 1 1)).run Tryz.prog (w.alloc (.cells #[.int .u8 ((x : Int) % 256)] 5)) = .ok (.string ⟨#[UInt8.ofNat (x % 256)]⟩) (w.alloc (.cells #[.int .u8 ((x : Int) % 256)] 5)) := by
  have h := run_convert_bytes_back (P := Tryz.prog) (w.alloc (.cells #[.int .u8 ((x : Int) % 256)] 5)) 110 9 5 ⟨w.heap.size, 0, none⟩ 1 [UInt8.ofNat (x % 256)] Tryz.underlying110 Tryz.underlying5 Tryz.underlying9 (fun j hj => by
    obtain rfl : j = 0 := by simpa using hj
    simp [Addr.add])
  simpa using h

set_option maxRecDepth 100000 in
set_option maxHeartbeats 2000000 in
theorem refBytes_loop (n k : Nat) (w : World) (h1 : 1 ≤ k) (h8 : k ≤ 8) (hn : n ≤ 281474976710655) (r : ByteArray × Int) (hr : r = if n < 256 ^ k then (⟨(beL n k).toArray⟩, 0) else (⟨#[]⟩, 10)) :
    Calls Tryz.prog 113 #[.int .i64 (n : Int), .int .i64 (k : Int)] w fun e w' => e = .returned (.tuple #[.string r.1, .int .i64 r.2]) ∧ Below w.heap.size w w' := by
  have b1 : decide ((k : Int) < 1) = false := by simp; omega
  have b8 : decide (8 < (k : Int)) = false := by simp; omega
  have hR := rightB_yes hn
  have HRR := Lib.hid hr
  clear hr
  go_enter Tryz.func113, Tryz.ntmps113
  go_wp2_with (go_at_call 110; refine (refRight_any _ _).mono ?_; rintro e w' ⟨rfl, rfl⟩)
  go_loopw [0, 6, 7] (fun a b i wr => ∃ j : Nat, j ≤ k ∧ a = .int .i64 ((n / 256 ^ j : Nat) : Int) ∧ b = .string ⟨(beL n j).toArray⟩ ∧ i = .int .i64 (j : Int) ∧ Below w.heap.size w wr) (fun _ _ i _ => k - (intOf i).toNat)
  case atStart => exact ⟨0, Nat.zero_le _, by simp, rfl, rfl, Below.refl _ _⟩
  case round =>
    obtain ⟨j, hj, rfl, rfl, rfl, hB⟩ := hrel
    by_cases hlt : j < k
    · have hx : n / 256 ^ j ≤ 281474976710655 := Nat.le_trans (Nat.div_le_self _ _) hn
      have HN := Lib.hid (show n / 256 ^ (j + 1) = n / 256 ^ j / 256 by rw [Nat.pow_succ, ← Nat.div_div_eq_div_mul])
      have HL := Lib.hid (beL_head n j)
      have hbl : (beL n j).length ≤ 8 := by rw [beL_length]; omega
      generalize n / 256 ^ j = x at *
      generalize beL n j = l at *
      have hcv := one_byte x wr
      go_wp2
      go_roundw
      case rel => exact ⟨j + 1, by omega, by rw [HN.out]; go_num, by rw [HL.out]; rfl, by go_num, hB.alloc hB.size _⟩
      case measure => simp [intOf]; omega
    · obtain rfl : j = k := by omega
      by_cases hf : n < 256 ^ j
      · have e0 : n / 256 ^ j = 0 := Nat.div_eq_of_lt hf
        rw [if_pos hf] at HRR
        obtain rfl := HRR.out
        clear HRR
        rw [e0]
        clear e0
        have HF := Lib.hid hf
        clear hf
        go_wp2
        go_ret2
        exact ⟨rfl, hB⟩
      · have e0 : 0 < n / 256 ^ j := Nat.div_pos (Nat.le_of_not_lt hf) (Nat.pow_pos (by omega))
        rw [if_neg hf] at HRR
        obtain rfl := HRR.out
        clear HRR
        generalize n / 256 ^ j = x at *
        have e1 : ((x : Int) != 0) = true := by rw [bne_iff_ne]; omega
        clear hf
        go_wp2
        go_ret2
        exact ⟨rfl, hB⟩

theorem refBytes_any (n k : Int) (w : World) :
    Calls Tryz.prog 113 #[.int .i64 n, .int .i64 k] w fun e w' => e = .returned (.tuple #[.string (bytesR n k).1, .int .i64 (bytesR n k).2]) ∧ Below w.heap.size w w' := by
  by_cases hk : k < 1 ∨ 8 < k
  · rw [bytesR_arg hk]
    exact refBytes_arg n k w hk
  by_cases hn : n < 0 ∨ 281474976710655 < n
  · rw [bytesR_num hk (fun h => by have := h.1; have := h.2.1; omega)]
    exact refBytes_num n k w (by omega) (by omega) hn
  · obtain ⟨m, rfl⟩ := Int.eq_ofNat_of_zero_le (show 0 ≤ n by omega)
    obtain ⟨j, rfl⟩ := Int.eq_ofNat_of_zero_le (show 0 ≤ k by omega)
    refine refBytes_loop m j w (by omega) (by omega) (by omega) _ ?_
    by_cases hf : m < 256 ^ j
    · rw [if_pos hf]
      exact bytesR_ok hk ⟨by omega, by omega, hf⟩
    · rw [if_neg hf]
      exact bytesR_num hk (fun h => hf h.2.2)

set_option maxRecDepth 100000 in
set_option maxHeartbeats 1000000 in
theorem refTake_arg (s : ByteArray) (at0 k : Int) (w : World) (hk : k < 1 ∨ 8 < k) :
    Calls Tryz.prog 117 #[.string s, .int .i64 at0, .int .i64 k] w fun e w' => e = .returned (.tuple #[.int .i64 0, .int .i64 2]) ∧ w = w' := by
  have hkk : decide (k < 1) = true ∨ decide (k < 1) = false ∧ decide (8 < k) = true := by
    by_cases h : k < 1
    · exact .inl (by simpa using h)
    · exact .inr ⟨by simpa using h, by simp; omega⟩
  clear hk
  rcases hkk with h | ⟨h1, h⟩
  all_goals
    go_enter Tryz.func117, Tryz.ntmps117
    go_wp2
    go_ret2
    exact ⟨rfl, rfl⟩

set_option maxRecDepth 100000 in
set_option maxHeartbeats 1000000 in
theorem refTake_short (s : ByteArray) (at0 k : Int) (w : World) (hl : s.size ≤ 281474976710656) (hat : at0 ≤ 9223372036854775807) (h1 : 1 ≤ k) (h8 : k ≤ 8) (hf : ¬ fitsB s at0 k) :
    Calls Tryz.prog 117 #[.string s, .int .i64 at0, .int .i64 k] w fun e w' => e = .returned (.tuple #[.int .i64 0, .int .i64 11]) ∧ w = w' := by
  have b1 : decide (k < 1) = false := by simp; omega
  have b8 : decide (8 < k) = false := by simp; omega
  have HF := Lib.hid (cutR_bad hf)
  clear hf
  go_enter Tryz.func117, Tryz.ntmps117
  go_wp2_with fail
  refine (refCut_any s at0 k _ hl hat).mono ?_
  rintro e w' ⟨rfl, rfl⟩
  rw [HF.out]
  go_wp2
  go_ret2
  exact ⟨rfl, rfl⟩

set_option maxRecDepth 100000 in
set_option maxHeartbeats 2000000 in
theorem refTake_loop (s q : ByteArray) (at0 : Int) (k : Nat) (w : World) (hl : s.size ≤ 281474976710656) (hat : at0 ≤ 9223372036854775807) (h1 : 1 ≤ k) (h8 : k ≤ 8) (hq : cutR s at0 k = (q, 0)) (hqk : q.size = k) (r : Int × Int)
    (hr : r = if valL q.data.toList ≤ 281474976710655 then (((valL q.data.toList : Nat) : Int), 0) else (0, 10)) :
    Calls Tryz.prog 117 #[.string s, .int .i64 at0, .int .i64 (k : Int)] w fun e w' => e = .returned (.tuple #[.int .i64 r.1, .int .i64 r.2]) ∧ w = w' := by
  have b1 : decide ((k : Int) < 1) = false := by simp; omega
  have b8 : decide (8 < (k : Int)) = false := by simp; omega
  have HQ := Lib.hid hq
  have HK := Lib.hid hqk
  have HR := Lib.hid hr
  clear hq hqk hr
  go_enter Tryz.func117, Tryz.ntmps117
  go_wp2_with fail
  refine (refCut_any s at0 _ _ hl hat).mono ?_
  rintro e w' ⟨rfl, rfl⟩
  rw [HQ.out]
  go_wp2_with fail
  go_loop [10, 11] (fun a i => ∃ j : Nat, j ≤ k ∧ a = .int .i64 ((valL (firstB q j) : Nat) : Int) ∧ i = .int .i64 (j : Int) ∧ valL (firstB q j) ≤ 281474976710655) (fun _ i => k - (intOf i).toNat)
  case atStart => exact ⟨0, Nat.zero_le _, by simp [firstB, valL], rfl, by simp [firstB, valL]⟩
  case round =>
    obtain ⟨j, hj, rfl, rfl, hv⟩ := hrel
    by_cases hlt : j < k
    · have hjq : j < q.size := by rw [HK.out]; exact hlt
      have HS := Lib.hid (show valL (firstB q (j + 1)) = 256 * valL (firstB q j) + q[j].toNat by rw [firstB_succ q j hjq, valL_snoc])
      have hb := q[j].toNat_lt
      have HLE := Lib.hid (show valL (firstB q (j + 1)) ≤ valL q.data.toList by
        have := valL_le_append (firstB q (j + 1)) (q.data.toList.drop (j + 1))
        rw [firstB, List.take_append_drop] at this
        exact this)
      generalize valL (firstB q j) = x at *
      go_wp2
      · go_ret2
        refine ⟨?_, rfl⟩
        rw [HR.out, if_neg (by have := HLE.out; have := HS.out; omega)]
        rfl
      · go_round
        case rel => exact ⟨j + 1, by omega, by rw [HS.out]; go_num, by go_num, by rw [HS.out]; omega⟩
        case measure => simp [intOf]; omega
    · obtain rfl : j = k := by omega
      have e0 : firstB q j = q.data.toList := by rw [← HK.out]; exact firstB_all q
      rw [e0] at hv ⊢
      rw [if_pos hv] at HR
      obtain rfl := HR.out
      clear HR e0
      go_wp2
      go_ret2
      exact ⟨rfl, rfl⟩

theorem refTake_any (s : ByteArray) (at0 k : Int) (w : World) (hl : s.size ≤ 281474976710656) (hat : at0 ≤ 9223372036854775807) :
    Calls Tryz.prog 117 #[.string s, .int .i64 at0, .int .i64 k] w fun e w' => e = .returned (.tuple #[.int .i64 (takeR s at0 k).1, .int .i64 (takeR s at0 k).2]) ∧ w = w' := by
  by_cases hk : k < 1 ∨ 8 < k
  · have e : takeR s at0 k = (0, 2) := by unfold takeR; rw [if_pos hk]
    rw [e]
    exact refTake_arg s at0 k w hk
  by_cases hf : fitsB s at0 k
  · obtain ⟨j, rfl⟩ := Int.eq_ofNat_of_zero_le (show 0 ≤ k by omega)
    refine refTake_loop s _ at0 j w hl hat (by omega) (by omega) (cutR_ok hf) ?_ _ ?_
    · obtain ⟨f0, f1, f2⟩ := hf
      rw [ByteArray.size_extract]
      omega
    · unfold takeR
      rw [if_neg hk, if_neg (fun h => h hf)]
  · have e : takeR s at0 k = (0, 11) := by unfold takeR; rw [if_neg hk, if_pos hf]
    rw [e]
    exact refTake_short s at0 k w hl hat (by omega) (by omega) hf
end Go.Proofs.YtmbmolgkccjedaaGreatDoor
