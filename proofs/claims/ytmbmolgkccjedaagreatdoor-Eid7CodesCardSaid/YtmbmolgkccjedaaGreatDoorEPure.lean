/- Names of endpoints (eid): which are right, their halves, names of halves: plain mathematics. -/
import Derived.Lib.Hide
set_option linter.unusedVariables false
set_option linter.unusedSimpArgs false
namespace Go.Proofs.YtmbmolgkccjedaaGreatDoor

/-- A name: its scheme, node, service, two numbers. -/
structure Nm where
  k : Int
  node : List UInt8
  serv : List UInt8
  a : Int
  b : Int
deriving DecidableEq

/-- A byte of a part; slashes among them or not. -/
def prtB (sl : Bool) (c : UInt8) : Bool := (decide (97 ≤ c.toNat) && decide (c.toNat ≤ 122)) || (decide (48 ≤ c.toNat) && decide (c.toNat ≤ 57)) || decide (c = 45) || decide (c = 46) || (sl && decide (c = 47))
def partB (sl : Bool) (s : List UInt8) : Bool := s.all (prtB sl) && decide (s.length ≤ 20)
/-- Is a name right? -/
def nmR (e : Nm) : Bool :=
  if e.k = 0 then e.node.isEmpty && e.serv.isEmpty && decide (e.a = 0) && decide (e.b = 0)
  else if e.k = 1 then !e.node.isEmpty && partB false e.node && partB true e.serv && decide (e.a = 0) && decide (e.b = 0)
  else if e.k = 2 then e.node.isEmpty && e.serv.isEmpty && decide (1 ≤ e.a) && decide (e.a ≤ 999999999) && decide (0 ≤ e.b) && decide (e.b ≤ 999999999)
  else false

/-- A digit's byte. -/
def dgt (d : Nat) : UInt8 := UInt8.ofNat (48 + d)
/-- Decimal digits, at most f of them. -/
def numF : Nat → Nat → List UInt8
  | 0, _ => []
  | f + 1, n => if n < 10 then [dgt n] else numF f (n / 10) ++ [dgt (n % 10)]
def numL (n : Nat) : List UInt8 := numF 20 n
/-- The number of digits, up to a thousand million. -/
def valN (n : Nat) (c : UInt8) : Nat := min (10 * n + c.toNat % 48 % 10) 1000000000
def valD (l : List UInt8) : Nat := l.foldl valN 0

theorem dgt_nat {d : Nat} (h : d < 10) : (dgt d).toNat = 48 + d := by
  unfold dgt
  rw [UInt8.toNat_ofNat']
  omega
theorem valN_dgt {n d : Nat} (hd : d < 10) (hn : 10 * n + d ≤ 1000000000) : valN n (dgt d) = 10 * n + d := by
  unfold valN
  rw [dgt_nat hd]
  omega
theorem valD_num : ∀ (f n : Nat), n < 10 ^ f → 1 ≤ f → n ≤ 999999999 → valD (numF f n) = n
  | 0, n, h, h1, _ => by omega
  | f + 1, n, h, _, h9 => by
    rw [numF]
    by_cases h10 : n < 10
    · rw [if_pos h10]
      unfold valD
      simp only [List.foldl_cons, List.foldl_nil]
      rw [valN_dgt h10 (by omega)]
      omega
    · rw [if_neg h10]
      have hf : 1 ≤ f := by
        cases f with
        | zero => simp at h; omega
        | succ f => omega
      have ih := valD_num f (n / 10) (by rw [Nat.pow_succ] at h; omega) hf (by omega)
      unfold valD at ih ⊢
      rw [List.foldl_append, ih]
      simp only [List.foldl_cons, List.foldl_nil]
      rw [valN_dgt (by omega) (by omega)]
      omega
theorem valD_numL {n : Nat} (h : n ≤ 999999999) : valD (numL n) = n := valD_num 20 n (Nat.lt_of_le_of_lt h (by decide)) (by decide) h
/-- All are digits. -/
theorem numF_digits : ∀ (f n : Nat), ∀ c ∈ numF f n, 48 ≤ c.toNat ∧ c.toNat ≤ 57
  | 0, n, c, h => by simp [numF] at h
  | f + 1, n, c, h => by
    rw [numF] at h
    by_cases h10 : n < 10
    · rw [if_pos h10] at h
      obtain rfl := List.mem_singleton.1 h
      rw [dgt_nat h10]; omega
    · rw [if_neg h10] at h
      rcases List.mem_append.1 h with h | h
      · exact numF_digits f _ c h
      · obtain rfl := List.mem_singleton.1 h
        rw [dgt_nat (by omega)]; omega
theorem numF_pos : ∀ (f n : Nat), 1 ≤ f → 1 ≤ (numF f n).length
  | f + 1, n, _ => by
    rw [numF]
    split <;> simp
theorem numF_len : ∀ (f n k : Nat), n < 10 ^ k → 1 ≤ k → (numF f n).length ≤ k
  | 0, n, k, _, _ => by simp [numF]
  | f + 1, n, k, h, hk => by
    rw [numF]
    by_cases h10 : n < 10
    · rw [if_pos h10]; simpa using hk
    · rw [if_neg h10]
      obtain ⟨j, rfl⟩ : ∃ j, k = j + 1 := ⟨k - 1, by omega⟩
      have hj : 1 ≤ j := by
        cases j with
        | zero => simp at h; omega
        | succ j => omega
      have := numF_len f (n / 10) j (by rw [Nat.pow_succ] at h; omega) hj
      rw [List.length_append, List.length_singleton]
      omega
theorem numL_len {n : Nat} (h : n ≤ 999999999) : (numL n).length ≤ 9 := numF_len 20 n 9 (Nat.lt_of_le_of_lt h (by decide)) (by decide)

/-- A name's halves. -/
def hlv (e : Nm) : List UInt8 × List UInt8 :=
  if e.k = 1 then ([100, 116, 110], [47, 47] ++ (e.node ++ ([47] ++ e.serv)))
  else if e.k = 2 then ([105, 112, 110], numL e.a.toNat ++ ([46] ++ numL e.b.toNat))
  else ([100, 116, 110], [110, 111, 110, 101])
/-- What stands ahead of, and behind, the first byte that is one; else nothing. -/
def spl (c : UInt8) (l : List UInt8) : List UInt8 × List UInt8 := if c ∈ l then (l.takeWhile (· != c), (l.dropWhile (· != c)).drop 1) else ([], [])
theorem spl_at {c : UInt8} {p q : List UInt8} (h : c ∉ p) : spl c (p ++ c :: q) = (p, q) := by
  have h' : ∀ x ∈ p, (x != c) = true := fun x hx => by
    rw [bne_iff_ne]
    intro e
    exact h (e ▸ hx)
  unfold spl
  rw [if_pos (by simp), List.takeWhile_append_of_pos h', List.dropWhile_append_of_pos h']
  simp
def nm0 : Nm := ⟨0, [], [], 0, 0⟩
/-- A name, read roughly of its halves. -/
def rgh (s t : List UInt8) : Nm :=
  if s = [105, 112, 110] then ⟨2, [], [], (valD (spl 46 t).1 : Nat), (valD (spl 46 t).2 : Nat)⟩
  else if t ≠ [110, 111, 110, 101] ∧ 2 < t.length then ⟨1, (spl 47 (t.drop 2)).1, (spl 47 (t.drop 2)).2, 0, 0⟩
  else nm0
/-- The name of halves. -/
def jnR (s t : List UInt8) : Option Nm := if nmR (rgh s t) = true ∧ hlv (rgh s t) = (s, t) then some (rgh s t) else none

theorem nmR_cases {e : Nm} (h : nmR e = true) : e = nm0 ∨ (e.k = 1 ∧ e.node ≠ [] ∧ partB false e.node = true ∧ partB true e.serv = true ∧ e.a = 0 ∧ e.b = 0) ∨ ∃ A B : Nat, e = ⟨2, [], [], A, B⟩ ∧ 1 ≤ A ∧ A ≤ 999999999 ∧ B ≤ 999999999 := by
  obtain ⟨k, nd, sv, a, b⟩ := e
  unfold nmR at h
  simp only at h ⊢
  by_cases h0 : k = 0
  · rw [if_pos h0] at h
    simp only [Bool.and_eq_true, List.isEmpty_iff, decide_eq_true_eq] at h
    obtain ⟨⟨⟨rfl, rfl⟩, rfl⟩, rfl⟩ := h
    subst h0
    exact .inl rfl
  rw [if_neg h0] at h
  by_cases h1 : k = 1
  · rw [if_pos h1] at h
    simp only [Bool.and_eq_true, decide_eq_true_eq, Bool.not_eq_true', List.isEmpty_eq_false_iff] at h
    obtain ⟨⟨⟨⟨h2, h3⟩, h4⟩, h5⟩, h6⟩ := h
    exact .inr (.inl ⟨h1, h2, h3, h4, h5, h6⟩)
  rw [if_neg h1] at h
  by_cases h2 : k = 2
  · rw [if_pos h2] at h
    simp only [Bool.and_eq_true, List.isEmpty_iff, decide_eq_true_eq] at h
    obtain ⟨⟨⟨⟨⟨rfl, rfl⟩, h3⟩, h4⟩, h5⟩, h6⟩ := h
    subst h2
    exact .inr (.inr ⟨a.toNat, b.toNat, by rw [Int.toNat_of_nonneg (by omega), Int.toNat_of_nonneg (by omega)], by omega, by omega, by omega⟩)
  rw [if_neg h2] at h
  cases h
theorem part_noslash {s : List UInt8} (h : partB false s = true) : (47 : UInt8) ∉ s := by
  intro hm
  unfold partB at h
  rw [Bool.and_eq_true] at h
  have := List.all_eq_true.1 h.1 47 hm
  revert this
  decide
theorem num_nodot (n : Nat) : (46 : UInt8) ∉ numL n := by
  intro hm
  have := numF_digits 20 n 46 hm
  revert this
  decide
/-- A right name is read of its halves. -/
theorem rgh_hlv {e : Nm} (h : nmR e = true) : rgh (hlv e).1 (hlv e).2 = e := by
  rcases nmR_cases h with rfl | ⟨h1, h2, h3, h4, h5, h6⟩ | ⟨A, B, rfl, hA, hA9, hB9⟩
  · decide
  · obtain ⟨k, nd, sv, a, b⟩ := e
    simp only at h1 h2 h3 h4 h5 h6
    subst h1 h5 h6
    unfold hlv rgh
    simp only [if_true]
    rw [if_neg (by decide), if_pos ⟨by intro e; simp at e, by simp; omega⟩]
    have e : ([47, 47] ++ (nd ++ ([47] ++ sv)) : List UInt8).drop 2 = nd ++ 47 :: sv := by simp
    rw [e, spl_at (part_noslash h3)]
  · have e2 : hlv ⟨2, [], [], A, B⟩ = ([105, 112, 110], numL A ++ 46 :: numL B) := by
      unfold hlv
      rw [if_neg (by show ¬ ((2 : Int) = 1); decide), if_pos rfl]
      simp
    rw [e2]
    unfold rgh
    rw [if_pos rfl, spl_at (num_nodot A)]
    simp only
    rw [valD_numL hA9, valD_numL hB9]
theorem jnR_hlv {e : Nm} (h : nmR e = true) : jnR (hlv e).1 (hlv e).2 = some e := by
  unfold jnR
  rw [rgh_hlv h, if_pos ⟨h, rfl⟩]
theorem jnR_back {s t : List UInt8} {e : Nm} (h : jnR s t = some e) : nmR e = true ∧ hlv e = (s, t) := by
  unfold jnR at h
  split at h
  · rename_i hc
    obtain rfl := Option.some.inj h
    exact hc
  · cases h
theorem hlv_inj {e f : Nm} (he : nmR e = true) (hf : nmR f = true) (h : hlv e = hlv f) : e = f := by
  have := jnR_hlv he
  rw [h, jnR_hlv hf] at this
  exact (Option.some.inj this).symm
/-- Both halves, with a colon between. -/
def txtN (e : Nm) : List UInt8 := (hlv e).1 ++ (58 :: (hlv e).2)
theorem hlv_three (e : Nm) : (hlv e).1.length = 3 := by
  unfold hlv
  by_cases h1 : e.k = 1
  · rw [if_pos h1]; rfl
  · rw [if_neg h1]
    by_cases h2 : e.k = 2
    · rw [if_pos h2]; rfl
    · rw [if_neg h2]; rfl
theorem txtN_inj {e f : Nm} (he : nmR e = true) (hf : nmR f = true) (h : txtN e = txtN f) : e = f := by
  unfold txtN at h
  have hl : (hlv e).1.length = (hlv f).1.length := by rw [hlv_three, hlv_three]
  obtain ⟨h1, h2⟩ := List.append_inj h hl
  exact hlv_inj he hf (Prod.ext h1 (List.cons.inj h2).2)
/-- A name of a text. -/
def prsR (s : List UInt8) : Option Nm := if s.length < 4 ∨ s[3]? ≠ some 58 then none else jnR (s.take 3) (s.drop 4)
theorem prsR_txt {e : Nm} (h : nmR e = true) : prsR (txtN e) = some e := by
  have h3 := hlv_three e
  unfold prsR txtN
  have e1 : ((hlv e).1 ++ 58 :: (hlv e).2).take 3 = (hlv e).1 := by rw [← h3, List.take_left']; rfl
  have e2 : ((hlv e).1 ++ 58 :: (hlv e).2).drop 4 = (hlv e).2 := by
    rw [show (4 : Nat) = (hlv e).1.length + 1 by omega, ← List.drop_drop, List.drop_left']
    · rfl
    · rfl
  have e3 : ((hlv e).1 ++ 58 :: (hlv e).2)[3]? = some 58 := by
    rw [List.getElem?_append_right (by omega), h3]; rfl
  rw [if_neg (by rw [e3, List.length_append, List.length_cons]; simp; omega), e1, e2, jnR_hlv h]
theorem prsR_back {s : List UInt8} {e : Nm} (h : prsR s = some e) : nmR e = true ∧ txtN e = s := by
  unfold prsR at h
  split at h
  · cases h
  · rename_i hc
    obtain ⟨h1, h2⟩ := jnR_back h
    refine ⟨h1, ?_⟩
    unfold txtN
    rw [h2]
    simp only [not_or, Decidable.not_not, Nat.not_lt] at hc
    have : s.drop 3 = 58 :: s.drop 4 := by
      rw [List.drop_eq_getElem_cons (by omega)]
      congr 1
      have := hc.2
      rw [List.getElem?_eq_getElem (by omega)] at this
      exact Option.some.inj this
    show s.take 3 ++ 58 :: s.drop 4 = s
    rw [← this, List.take_append_drop]
/-- A name's home. -/
def homN (e : Nm) : Nm := ⟨e.k, e.node, [], e.a, 0⟩
theorem hom_right {e : Nm} (h : nmR e = true) : nmR (homN e) = true := by
  rcases nmR_cases h with rfl | ⟨h1, h2, h3, h4, h5, h6⟩ | ⟨A, B, rfl, hA, hA9, hB9⟩
  · decide
  · have hp : partB true [] = true := by decide
    simp [nmR, homN, h1, h2, h3, h5, hp]
  · have h1 : (1 : Int) ≤ (A : Int) := by omega
    have h2 : (A : Int) ≤ 999999999 := by omega
    simp [nmR, homN, h1, h2]
theorem hom_hom (e : Nm) : homN (homN e) = homN e := rfl
end Go.Proofs.YtmbmolgkccjedaaGreatDoor
