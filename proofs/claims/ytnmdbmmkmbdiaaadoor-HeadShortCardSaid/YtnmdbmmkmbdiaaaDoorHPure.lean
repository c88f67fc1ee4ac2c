/- Heads and their bytes, as lists: plain mathematics (over stage 1's beL and valL). -/
import Derived.Test.YtnmdbmmkmbdiaaaDoorPure
set_option linter.unusedVariables false
set_option linter.unusedSimpArgs false
namespace Go.Proofs.YtnmdbmmkmbdiaaaDoor

/-- How many bytes an argument asks for, behind the first one; and what the first one has beside the major. -/
def wid (n : Nat) : Nat := if n < 24 then 0 else if n < 256 then 1 else if n < 65536 then 2 else if n < 4294967296 then 4 else 8
def tagN (n : Nat) : Nat := if n < 24 then n else if n < 256 then 24 else if n < 65536 then 25 else if n < 4294967296 then 26 else 27
/-- The width that a first byte tells. -/
def widT (t : Nat) : Nat := if t < 24 then 0 else if t = 24 then 1 else if t = 25 then 2 else if t = 26 then 4 else 8
/-- Is it a major? -/
def Maj (m : Nat) : Prop := m = 0 ∨ 2 ≤ m ∧ m ≤ 4
instance (m : Nat) : Decidable (Maj m) := by unfold Maj; infer_instance
/-- A head's bytes. -/
def headL (m n : Nat) : List UInt8 := UInt8.ofNat (32 * m + tagN n) :: beL n (wid n)

theorem headL_length (m n : Nat) : (headL m n).length = 1 + wid n := by simp [headL, beL_length]; omega
theorem wid_cases (n : Nat) : (n < 24 ∧ wid n = 0 ∧ tagN n = n) ∨ (24 ≤ n ∧ n < 256 ∧ wid n = 1 ∧ tagN n = 24) ∨ (256 ≤ n ∧ n < 65536 ∧ wid n = 2 ∧ tagN n = 25) ∨ (65536 ≤ n ∧ n < 4294967296 ∧ wid n = 4 ∧ tagN n = 26) ∨ (4294967296 ≤ n ∧ wid n = 8 ∧ tagN n = 27) := by
  unfold wid tagN
  by_cases h1 : n < 24
  · exact .inl ⟨h1, if_pos h1, if_pos h1⟩
  · by_cases h2 : n < 256
    · exact .inr (.inl ⟨by omega, h2, by simp [h1, h2], by simp [h1, h2]⟩)
    · by_cases h3 : n < 65536
      · exact .inr (.inr (.inl ⟨by omega, h3, by simp [h1, h2, h3], by simp [h1, h2, h3]⟩))
      · by_cases h4 : n < 4294967296
        · exact .inr (.inr (.inr (.inl ⟨by omega, h4, by simp [h1, h2, h3, h4], by simp [h1, h2, h3, h4]⟩)))
        · exact .inr (.inr (.inr (.inr ⟨by omega, by simp [h1, h2, h3, h4], by simp [h1, h2, h3, h4]⟩)))
theorem wid_room {n : Nat} (h : n ≤ 281474976710655) (h24 : 24 ≤ n) : n < 256 ^ wid n := by
  rcases wid_cases n with ⟨h1, h2, _⟩ | ⟨h0, h1, h2, _⟩ | ⟨h0, h1, h2, _⟩ | ⟨h0, h1, h2, _⟩ | ⟨h0, h2, _⟩ <;> rw [h2] <;> simp <;> omega
theorem wid_le (n : Nat) : wid n ≤ 8 := by
  rcases wid_cases n with ⟨h1, h2, _⟩ | ⟨h0, h1, h2, _⟩ | ⟨h0, h1, h2, _⟩ | ⟨h0, h1, h2, _⟩ | ⟨h0, h2, _⟩ <;> omega
theorem wid_mono {n m : Nat} (h : n ≤ m) : wid n ≤ wid m := by
  rcases wid_cases n with ⟨h1, h2, _⟩ | ⟨h0, h1, h2, _⟩ | ⟨h0, h1, h2, _⟩ | ⟨h0, h1, h2, _⟩ | ⟨h0, h2, _⟩ <;> rcases wid_cases m with ⟨k1, k2, _⟩ | ⟨k0, k1, k2, _⟩ | ⟨k0, k1, k2, _⟩ | ⟨k0, k1, k2, _⟩ | ⟨k0, k2, _⟩ <;> omega
theorem tag_le (n : Nat) : tagN n ≤ 27 := by
  rcases wid_cases n with ⟨h1, _, h2⟩ | ⟨h0, h1, _, h2⟩ | ⟨h0, h1, _, h2⟩ | ⟨h0, h1, _, h2⟩ | ⟨h0, _, h2⟩ <;> omega
theorem widT_tag (n : Nat) : widT (tagN n) = wid n := by
  rcases wid_cases n with ⟨h1, h3, h2⟩ | ⟨h0, h1, h3, h2⟩ | ⟨h0, h1, h3, h2⟩ | ⟨h0, h1, h3, h2⟩ | ⟨h0, h3, h2⟩ <;> rw [h2, h3] <;> unfold widT
  · exact if_pos h1
  all_goals decide

/-- What is decoded at the beginning of a row of bytes: an error's number; or a major, a number, and how many bytes. -/
def hdL : List UInt8 → Except Int (Nat × Nat × Nat)
  | [] => .error 11
  | b :: r => if ¬ Maj (b.toNat / 32) ∨ 27 < b.toNat % 32 then .error 20 else
      if b.toNat % 32 < 24 then .ok (b.toNat / 32, b.toNat % 32, 1) else
      if r.length < widT (b.toNat % 32) then .error 11 else
      if 281474976710655 < valL (r.take (widT (b.toNat % 32))) then .error 10 else
      if wid (valL (r.take (widT (b.toNat % 32)))) ≠ widT (b.toNat % 32) then .error 20 else
      .ok (b.toNat / 32, valL (r.take (widT (b.toNat % 32))), 1 + widT (b.toNat % 32))

theorem first_byte_h {m n : Nat} (hm : Maj m) : (UInt8.ofNat (32 * m + tagN n)).toNat / 32 = m ∧ (UInt8.ofNat (32 * m + tagN n)).toNat % 32 = tagN n := by
  have h1 := tag_le n
  have h2 : m ≤ 4 := by unfold Maj at hm; omega
  have e : (UInt8.ofNat (32 * m + tagN n)).toNat = 32 * m + tagN n := by simp; omega
  rw [e]
  omega
theorem hdL_head {m n : Nat} (hm : Maj m) (hn : n ≤ 281474976710655) (r : List UInt8) : hdL (headL m n ++ r) = .ok (m, n, (headL m n).length) := by
  obtain ⟨e1, e2⟩ := first_byte_h (n := n) hm
  have ht := tag_le n
  rw [headL_length]
  unfold headL
  rw [List.cons_append, hdL, e1, e2, if_neg (by simp [hm]; omega)]
  by_cases h24 : n < 24
  · have hw : wid n = 0 := by unfold wid; exact if_pos h24
    have htg : tagN n = n := by unfold tagN; exact if_pos h24
    rw [htg, if_pos h24, hw]
  · have htg : ¬ tagN n < 24 := by
      rcases wid_cases n with ⟨h1, _, h2⟩ | ⟨h0, h1, _, h2⟩ | ⟨h0, h1, _, h2⟩ | ⟨h0, h1, _, h2⟩ | ⟨h0, _, h2⟩ <;> omega
    have e3 : (beL n (wid n) ++ r).take (wid n) = beL n (wid n) := by
      rw [List.take_append_of_le_length (by rw [beL_length]; omega), List.take_of_length_le (by rw [beL_length]; omega)]
    rw [if_neg htg, widT_tag, if_neg (by rw [List.length_append, beL_length]; omega), e3, valL_beL_of_lt (wid_room hn (by omega)), if_neg (by omega), if_neg (by simp)]
theorem hdL_back {l : List UInt8} {m n k : Nat} (h : hdL l = .ok (m, n, k)) : Maj m ∧ n ≤ 281474976710655 ∧ k = (headL m n).length ∧ k ≤ l.length ∧ l.take k = headL m n := by
  rcases l with _ | ⟨b, r⟩
  · cases h
  · have hb := b.toNat_lt
    rw [hdL] at h
    by_cases h1 : ¬ Maj (b.toNat / 32) ∨ 27 < b.toNat % 32
    · rw [if_pos h1] at h; cases h
    · rw [if_neg h1] at h
      have hm : Maj (b.toNat / 32) := Decidable.byContradiction fun e => h1 (.inl e)
      have ht : b.toNat % 32 ≤ 27 := by rcases Nat.lt_or_ge 27 (b.toNat % 32) with e | e; exact absurd (.inr e) h1; exact e
      have hbb : UInt8.ofNat b.toNat = b := by simp
      by_cases h2 : b.toNat % 32 < 24
      · rw [if_pos h2] at h
        simp only [Except.ok.injEq, Prod.mk.injEq] at h
        obtain ⟨rfl, rfl, rfl⟩ := h
        have hw : wid (b.toNat % 32) = 0 := by unfold wid; exact if_pos h2
        have htg : tagN (b.toNat % 32) = b.toNat % 32 := by unfold tagN; exact if_pos h2
        refine ⟨hm, by omega, by rw [headL_length, hw], by simp, ?_⟩
        unfold headL
        rw [hw, htg, show 32 * (b.toNat / 32) + b.toNat % 32 = b.toNat by omega, hbb]
        rfl
      · rw [if_neg h2] at h
        by_cases h3 : r.length < widT (b.toNat % 32)
        · rw [if_pos h3] at h; cases h
        · rw [if_neg h3] at h
          by_cases h4 : 281474976710655 < valL (r.take (widT (b.toNat % 32)))
          · rw [if_pos h4] at h; cases h
          · rw [if_neg h4] at h
            by_cases h5 : wid (valL (r.take (widT (b.toNat % 32)))) ≠ widT (b.toNat % 32)
            · rw [if_pos h5] at h; cases h
            · rw [if_neg h5] at h
              simp only [Except.ok.injEq, Prod.mk.injEq] at h
              obtain ⟨rfl, rfl, rfl⟩ := h
              have h5' : wid (valL (r.take (widT (b.toNat % 32)))) = widT (b.toNat % 32) := Decidable.byContradiction h5
              have hl : (r.take (widT (b.toNat % 32))).length = widT (b.toNat % 32) := by rw [List.length_take]; omega
              have htag : tagN (valL (r.take (widT (b.toNat % 32)))) = b.toNat % 32 := by
                have hT : (b.toNat % 32 = 24 ∧ widT (b.toNat % 32) = 1) ∨ (b.toNat % 32 = 25 ∧ widT (b.toNat % 32) = 2) ∨ (b.toNat % 32 = 26 ∧ widT (b.toNat % 32) = 4) ∨ (b.toNat % 32 = 27 ∧ widT (b.toNat % 32) = 8) := by
                  have : b.toNat % 32 = 24 ∨ b.toNat % 32 = 25 ∨ b.toNat % 32 = 26 ∨ b.toNat % 32 = 27 := by omega
                  rcases this with e | e | e | e <;> rw [e] <;> decide
                generalize valL (r.take (widT (b.toNat % 32))) = v at *
                rcases wid_cases v with ⟨k1, k2, k3⟩ | ⟨k0, k1, k2, k3⟩ | ⟨k0, k1, k2, k3⟩ | ⟨k0, k1, k2, k3⟩ | ⟨k0, k2, k3⟩ <;> omega
              refine ⟨hm, by omega, by rw [headL_length, h5'], by simp; omega, ?_⟩
              unfold headL
              rw [htag, h5', show 32 * (b.toNat / 32) + b.toNat % 32 = b.toNat by omega, hbb, beL_valL _ _ hl, Nat.add_comm, List.take_succ_cons]
theorem hdL_err {l : List UInt8} {e : Int} (h : hdL l = .error e) : e = 11 ∨ e = 20 ∨ e = 10 := by
  rcases l with _ | ⟨b, r⟩
  · exact .inl (by injection h with h; exact h.symm)
  · rw [hdL] at h
    repeat' split at h
    all_goals first | cases h | skip
    all_goals first | exact .inl rfl | exact .inr (.inl rfl) | exact .inr (.inr rfl)
theorem head_begins {a b n m : Nat} (ha : Maj a) (hb : Maj b) (hn : n ≤ 281474976710655) (hm : m ≤ 281474976710655) : (headL b m).take (headL a n).length = headL a n ↔ a = b ∧ n = m := by
  constructor
  · intro h
    have e : headL b m = headL a n ++ (headL b m).drop (headL a n).length := by
      conv => lhs; rw [← List.take_append_drop (headL a n).length (headL b m)]
      rw [h]
    have h1 := hdL_head hb hm []
    rw [List.append_nil, e, hdL_head ha hn] at h1
    simp only [Except.ok.injEq, Prod.mk.injEq] at h1
    exact ⟨h1.1, h1.2.1⟩
  · rintro ⟨rfl, rfl⟩
    exact List.take_length
theorem head_short {m n j : Nat} (hm : Maj m) (hn : n ≤ 281474976710655) (h : j < (headL m n).length) : hdL ((headL m n).take j) = .error 11 := by
  rcases j with _ | j
  · rfl
  · obtain ⟨e1, e2⟩ := first_byte_h (n := n) hm
    have ht := tag_le n
    rw [headL_length] at h
    have h24 : 24 ≤ n := by
      rcases wid_cases n with ⟨h1, h2, _⟩ | ⟨h0, _⟩ | ⟨h0, _⟩ | ⟨h0, _⟩ | ⟨h0, _⟩ <;> omega
    have htg : ¬ tagN n < 24 := by
      rcases wid_cases n with ⟨h1, _, h2⟩ | ⟨h0, h1, _, h2⟩ | ⟨h0, h1, _, h2⟩ | ⟨h0, h1, _, h2⟩ | ⟨h0, _, h2⟩ <;> omega
    unfold headL
    rw [List.take_succ_cons, hdL, e1, e2, if_neg (by simp [hm]; omega), if_neg htg, widT_tag, if_pos (by rw [List.length_take, beL_length]; omega)]
end Go.Proofs.YtnmdbmmkmbdiaaaDoor
