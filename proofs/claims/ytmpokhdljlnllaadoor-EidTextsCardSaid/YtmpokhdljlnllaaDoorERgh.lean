/- What read of package eid takes roughly of two halves, and that it is the name of these halves, if there is one. -/
import Derived.Test.YtmpokhdljlnllaaDoorECat
import Derived.Lib.IndexMore
import Derived.Lib.AtoiAll
set_option linter.unusedVariables false
set_option linter.unusedSimpArgs false
namespace Go.Proofs.YtmpokhdljlnllaaDoor
open Go.RowKit

theorem index_at (c : UInt8) (q : List UInt8) : ∀ (p : List UInt8), c ∉ p → Lib.index (p ++ c :: q) [c] = (p.length : Int)
  | [], _ => by simp [Lib.index]
  | b :: r, h => by
    have hb : b ≠ c := fun e => h (by rw [e]; exact List.mem_cons_self)
    have ih := index_at c q r (fun hm => h (List.mem_cons_of_mem _ hm))
    rw [List.cons_append, Lib.index, ih]
    have hp : (List.isPrefixOf [c] (b :: (r ++ c :: q))) = false := by
      simp [List.isPrefixOf, Ne.symm hb]
    rw [hp]
    have hn : (((r.length : Nat) : Int) == -1) = false := by simp
    rw [hn]
    simp
theorem index_no (c : UInt8) : ∀ (p : List UInt8), c ∉ p → Lib.index p [c] = -1
  | [], _ => by simp [Lib.index]
  | b :: r, h => by
    have hb : b ≠ c := fun e => h (by rw [e]; exact List.mem_cons_self)
    have ih := index_no c r (fun hm => h (List.mem_cons_of_mem _ hm))
    rw [Lib.index, ih]
    have hp : (List.isPrefixOf [c] (b :: r)) = false := by
      simp [List.isPrefixOf, Ne.symm hb]
    rw [hp]
    simp
theorem cut_at {c : UInt8} {p q : List UInt8} (h : c ∉ p) : Lib.cut (p ++ c :: q) [c] = (p, q, true) := by
  unfold Lib.cut
  rw [index_at c q p h, if_pos (by omega)]
  simp
theorem cut_no {c : UInt8} {p : List UInt8} (h : c ∉ p) : Lib.cut p [c] = (p, [], false) := by
  unfold Lib.cut
  rw [index_no c p h, if_neg (by omega)]
theorem cut_two (q : List UInt8) : Lib.cut (47 :: 47 :: q) [47, 47] = ([], q, true) := by
  have h : Lib.index (47 :: 47 :: q) [47, 47] = 0 := by simp [Lib.index, List.isPrefixOf]
  unfold Lib.cut
  rw [h, if_pos (by omega)]
  simp

/-- Digits are read as the number that they tell. -/
theorem dec_val : ∀ (l : List UInt8) (acc : Nat), (∀ c ∈ l, 48 ≤ c.toNat ∧ c.toNat ≤ 57) → (∀ k, k ≤ l.length → (l.take k).foldl valN acc < 1000000000) → acc < 1000000000 → Lib.parseUint10 acc l = .ok (l.foldl valN acc)
  | [], acc, _, _, _ => rfl
  | c :: r, acc, h, hb, ha => by
    have hc := h c List.mem_cons_self
    have h1 := hb 1 (by simp)
    simp only [List.take_succ_cons, List.take_zero, List.foldl_cons, List.foldl_nil] at h1
    have hv : valN acc c = acc * 10 + (c.toNat - 48) := by
      unfold valN at h1 ⊢
      omega
    rw [Lib.parseUint10, if_pos hc, if_neg (by omega), if_neg (by omega), List.foldl_cons, hv]
    refine dec_val r _ (fun x hx => h x (List.mem_cons_of_mem _ hx)) (fun k hk => ?_) (by omega)
    have := hb (k + 1) (by simpa using hk)
    rw [List.take_succ_cons, List.foldl_cons, hv] at this
    exact this
theorem val_mono : ∀ (l : List UInt8) (acc : Nat), acc ≤ 1000000000 → l.foldl valN acc < 1000000000 → (∀ k, (l.take k).foldl valN acc < 1000000000)
  | [], acc, _, h, k => by simpa using h
  | c :: r, acc, ha, h, k => by
    cases k with
    | zero =>
      simp only [List.take_zero, List.foldl_nil]
      rcases Nat.lt_or_ge acc 1000000000 with hl | hl
      · exact hl
      · exfalso
        have e : acc = 1000000000 := by omega
        have hall : ∀ (l : List UInt8), l.foldl valN 1000000000 = 1000000000 := by
          intro l
          induction l with
          | nil => rfl
          | cons d s ih =>
            rw [List.foldl_cons, show valN 1000000000 d = 1000000000 by unfold valN; omega]
            exact ih
        rw [e, hall] at h
        omega
    | succ k =>
      rw [List.take_succ_cons, List.foldl_cons]
      rw [List.foldl_cons] at h
      exact val_mono r _ (by unfold valN; omega) h k
theorem numP_num {n : Nat} (h : n ≤ 999999999) : numP (numL n) = (n : Int) := by
  have hd := numF_digits 20 n
  have hp := numF_pos 20 n (by decide)
  have hv := valD_numL h
  have hl : ∃ c r, numL n = c :: r := by
    unfold numL
    cases hq : numF 20 n with
    | nil => rw [hq] at hp; simp at hp
    | cons c r => exact ⟨c, r, rfl⟩
  obtain ⟨c, r, hcr⟩ := hl
  have hc := hd c (by have : c ∈ numL n := by rw [hcr]; exact List.mem_cons_self
                      exact this)
  have hm : Lib.parseMag (numL n) = .ok n := by
    unfold Lib.parseMag
    rw [if_neg (by rw [hcr]; simp)]
    have := dec_val (numL n) 0 hd (fun k _ => val_mono (numL n) 0 (by omega) (by unfold valD at hv; omega) k) (by omega)
    rw [this]
    unfold valD at hv
    rw [hv]
  unfold numP Lib.atoiAll
  rw [hcr] at hm ⊢
  simp only [show ¬ c.toNat = 43 by omega, show ¬ c.toNat = 45 by omega, or_self, if_false, not_false_eq_true, true_and, false_and]
  rw [hm]
  simp only
  rw [if_neg (show ¬ 9223372036854775808 ≤ n by omega)]

/-- The name that is taken of halves as if they were right ones. -/
def rghP (s t : List UInt8) : Nm :=
  if s = [105, 112, 110] then ⟨2, [], [], numP (Lib.cut t [46]).1, numP (Lib.cut t [46]).2.1⟩
  else if t = [110, 111, 110, 101] then nm0
  else ⟨1, (Lib.cut (Lib.cut t [47, 47]).2.1 [47]).1, (Lib.cut (Lib.cut t [47, 47]).2.1 [47]).2.1, 0, 0⟩
theorem rghP_hlv {e : Nm} (h : nmR e = true) : rghP (hlv e).1 (hlv e).2 = e := by
  rcases nmR_cases h with rfl | ⟨h1, h2, h3, h4, h5, h6⟩ | ⟨A, B, rfl, hA, hA9, hB9⟩
  · decide
  · obtain ⟨k, nd, sv, a, b⟩ := e
    simp only at h1 h2 h3 h4 h5 h6
    subst h1 h5 h6
    unfold hlv rghP
    simp only [if_true]
    rw [if_neg (by decide), if_neg (by intro e; simp at e)]
    have e : ([47, 47] ++ (nd ++ ([47] ++ sv)) : List UInt8) = 47 :: 47 :: (nd ++ 47 :: sv) := by simp
    rw [e, cut_two]
    simp only
    rw [cut_at (part_noslash h3)]
  · have e2 : hlv ⟨2, [], [], A, B⟩ = ([105, 112, 110], numL A ++ 46 :: numL B) := by
      unfold hlv
      rw [if_neg (by show ¬ ((2 : Int) = 1); decide), if_pos rfl]
      simp
    rw [e2]
    unfold rghP
    rw [if_pos rfl, cut_at (num_nodot A)]
    simp only
    rw [numP_num hA9, numP_num hB9]
/-- The name of halves, as read takes it. -/
def jnP (s t : List UInt8) : Option Nm := if nmR (rghP s t) = true ∧ hlv (rghP s t) = (s, t) then some (rghP s t) else none
theorem jnP_eq (s t : List UInt8) : jnP s t = jnR s t := by
  unfold jnP
  split
  · rename_i hc
    have := jnR_hlv hc.1
    rw [hc.2] at this
    exact this.symm
  · rename_i hc
    cases hj : jnR s t with
    | none => rfl
    | some e =>
      exfalso
      obtain ⟨h1, h2⟩ := jnR_back hj
      apply hc
      have := rghP_hlv h1
      rw [h2] at this
      rw [this]
      exact ⟨h1, h2⟩
/-- The name of a text, as Parse takes it. -/
def prsP (s : List UInt8) : Option Nm := if (Lib.cut s [58]).2.2 = true then jnR (Lib.cut s [58]).1 (Lib.cut s [58]).2.1 else none
theorem hlv_nocolon (e : Nm) : (58 : UInt8) ∉ (hlv e).1 := by
  unfold hlv
  by_cases h1 : e.k = 1
  · rw [if_pos h1]; simp
  · rw [if_neg h1]
    by_cases h2 : e.k = 2
    · rw [if_pos h2]; simp
    · rw [if_neg h2]; simp
theorem first_in (c : UInt8) : ∀ (s : List UInt8), c ∈ s → ∃ p q, s = p ++ c :: q ∧ c ∉ p
  | b :: r, h => by
    by_cases e : b = c
    · subst e
      exact ⟨[], r, rfl, by simp⟩
    · obtain ⟨p, q, rfl, hp⟩ := first_in c r ((List.mem_cons.1 h).resolve_left (Ne.symm e))
      exact ⟨b :: p, q, rfl, fun hm => by
        rcases List.mem_cons.1 hm with h1 | h1
        · exact e h1.symm
        · exact hp h1⟩
theorem prsP_eq (s : List UInt8) : prsP s = prsR s := by
  cases hp : prsR s with
  | some e =>
    obtain ⟨h1, h2⟩ := prsR_back hp
    unfold prsP
    rw [← h2]
    unfold txtN
    rw [cut_at (hlv_nocolon e)]
    simp only [if_true]
    exact jnR_hlv h1
  | none =>
    cases hq : prsP s with
    | none => rfl
    | some e =>
      exfalso
      unfold prsP at hq
      split at hq
      · rename_i hc
        obtain ⟨h1, h2⟩ := jnR_back hq
        by_cases hm : (58 : UInt8) ∈ s
        · obtain ⟨p, q, rfl, hpq⟩ := first_in 58 s hm
          rw [cut_at hpq] at h2 hq
          have := prsR_txt h1
          unfold txtN at this
          rw [h2] at this
          rw [this] at hp
          cases hp
        · rw [cut_no hm] at hc
          cases hc
      · cases hq
end Go.Proofs.YtmpokhdljlnllaaDoor
