/- Items of CBOR as trees: their bytes, how they are read, which are right: plain mathematics (over heads as lists). -/
import Derived.Test.YtmbmolgkccjedaaGreatDoorM3
import Derived.Test.YtmbmolgkccjedaaGreatDoorEPure
set_option linter.unusedVariables false
set_option linter.unusedSimpArgs false
namespace Go.Proofs.YtmbmolgkccjedaaGreatDoor

/-- An item: its kind, number, bytes, items. -/
inductive Itm where
  | mk (kind n : Int) (s : List UInt8) (l : List Itm)

/-- Are all bytes from 20 to 7e? -/
def txtB (s : List UInt8) : Bool := s.all fun b => decide (32 ≤ b.toNat) && decide (b.toNat ≤ 126)
/-- Is what an item is of so, whatever is in its list? -/
def ownB (k n : Int) (s : List UInt8) (l : List Itm) : Bool :=
  (decide (k = 0) && decide (0 ≤ n) && decide (n ≤ 281474976710655) && s.isEmpty && l.isEmpty) ||
  (decide (k = 2) && decide (n = 0) && decide (s.length ≤ 600) && l.isEmpty) ||
  (decide (k = 3) && decide (n = 0) && decide (s.length ≤ 600) && l.isEmpty && txtB s) ||
  (decide (k = 4) && decide (n = 0) && s.isEmpty)
/-- A head's argument. -/
def argN (k n : Int) (s : List UInt8) (l : List Itm) : Nat := if k = 4 then l.length else if k = 0 then n.toNat else s.length

mutual
/-- How many items there are. -/
def cnt : Itm → Nat
  | .mk _ _ _ l => cnts l + 1
def cnts : List Itm → Nat
  | [] => 0
  | x :: r => cnt x + cnts r
end
mutual
/-- How deep an item is. -/
def dep : Itm → Nat
  | .mk _ _ _ l => deps l + 1
def deps : List Itm → Nat
  | [] => 0
  | x :: r => max (dep x) (deps r)
end
mutual
/-- Is an item, and all in it, of what it must be? -/
def okI : Itm → Bool
  | .mk k n s l => ownB k n s l && okIs l
def okIs : List Itm → Bool
  | [] => true
  | x :: r => okI x && okIs r
end
mutual
/-- An item's bytes. -/
def encI : Itm → List UInt8
  | .mk k n s l => headL k.toNat (argN k n s l) ++ (s ++ encIs l)
def encIs : List Itm → List UInt8
  | [] => []
  | x :: r => encI x ++ encIs r
end

/-- n items, read one behind the other; c: how many were begun ahead. -/
def rdN (f : Nat → List UInt8 → Except Int (Itm × List UInt8 × Nat)) : Nat → Nat → List UInt8 → Except Int (List Itm × List UInt8 × Nat)
  | 0, c, l => .ok ([], l, c)
  | n + 1, c, l => match f c l with
    | .error e => .error e
    | .ok (x, r, c') => match rdN f n c' r with
      | .error e => .error e
      | .ok (xs, r', c'') => .ok (x :: xs, r', c'')
/-- An item, read; f: how much deeper it may be; c: how many were begun ahead. -/
def rd : Nat → Nat → List UInt8 → Except Int (Itm × List UInt8 × Nat)
  | 0, _, _ => .error 40
  | f + 1, c, l => if 60 ≤ c then .error 40 else
    match hdL l with
    | .error e => .error e
    | .ok (m, n, k) =>
      if m = 0 then .ok (.mk 0 n [] [], l.drop k, c + 1) else
      if m = 4 then (match rdN (rd f) n (c + 1) (l.drop k) with
        | .error e => .error e
        | .ok (xs, r, c') => .ok (.mk 4 0 [] xs, r, c')) else
      if 600 < n then .error 40 else
      if (l.drop k).length < n then .error 11 else
      if m = 3 ∧ txtB ((l.drop k).take n) = false then .error 20 else
      .ok (.mk m 0 ((l.drop k).take n) [], (l.drop k).drop n, c + 1)

theorem cnt_pos (x : Itm) : 1 ≤ cnt x := by cases x; simp [cnt]
theorem cnts_length : ∀ l : List Itm, l.length ≤ cnts l
  | [] => by simp [cnts]
  | x :: r => by have := cnts_length r; have := cnt_pos x; simp [cnts]; omega
theorem encI_cons (x : Itm) : 1 ≤ (encI x).length := by
  cases x with
  | mk k n s l => simp [encI, headL]

/-- The ways of what an item is of. -/
theorem ownB_cases {k n : Int} {s : List UInt8} {l : List Itm} (h : ownB k n s l = true) :
    (∃ N : Nat, k = 0 ∧ n = N ∧ N ≤ 281474976710655 ∧ s = [] ∧ l = []) ∨ (k = 2 ∧ n = 0 ∧ s.length ≤ 600 ∧ l = []) ∨ (k = 3 ∧ n = 0 ∧ s.length ≤ 600 ∧ l = [] ∧ txtB s = true) ∨ (k = 4 ∧ n = 0 ∧ s = []) := by
  unfold ownB at h
  simp only [Bool.or_eq_true, Bool.and_eq_true, decide_eq_true_eq, List.isEmpty_iff] at h
  rcases h with ((⟨⟨⟨⟨h1, h2⟩, h3⟩, h4⟩, h5⟩ | ⟨⟨⟨h1, h2⟩, h3⟩, h4⟩) | ⟨⟨⟨⟨h1, h2⟩, h3⟩, h4⟩, h5⟩) | ⟨⟨h1, h2⟩, h3⟩
  · exact .inl ⟨n.toNat, h1, by omega, by omega, h4, h5⟩
  · exact .inr (.inl ⟨h1, h2, h3, h4⟩)
  · exact .inr (.inr (.inl ⟨h1, h2, h3, h4, h5⟩))
  · exact .inr (.inr (.inr ⟨h1, h2, h3⟩))

theorem drop_len {a b : List UInt8} : (a ++ b).drop a.length = b := by rw [List.drop_append_of_le_length (Nat.le_refl _), List.drop_length, List.nil_append]

/-- An item is read from its bytes, whatever stands behind. -/
theorem rd_enc : ∀ (f : Nat) (x : Itm) (c : Nat) (r : List UInt8), okI x = true → dep x ≤ f → c + cnt x ≤ 60 → rd f c (encI x ++ r) = .ok (x, r, c + cnt x) := by
  intro f
  induction f with
  | zero => intro x c r _ h; cases x; simp [dep] at h
  | succ f ih =>
    have ihs : ∀ (l : List Itm) (c : Nat) (r : List UInt8), okIs l = true → deps l ≤ f → c + cnts l ≤ 60 → rdN (rd f) l.length c (encIs l ++ r) = .ok (l, r, c + cnts l) := by
      intro l
      induction l with
      | nil => intro c r _ _ _; simp [rdN, encIs, cnts]
      | cons x l ihl =>
        intro c r h1 h2 h3
        simp only [okIs, Bool.and_eq_true] at h1
        simp only [deps] at h2
        simp only [cnts] at h3
        rw [List.length_cons, encIs, List.append_assoc, rdN, ih x c _ h1.1 (by omega) (by omega)]
        simp only []
        rw [ihl (c + cnt x) r h1.2 (by omega) (by omega)]
        simp only [cnts, Nat.add_assoc]
    intro x c r hok hd hc
    cases x with
    | mk k n s l =>
      simp only [okI, Bool.and_eq_true] at hok
      simp only [dep] at hd
      simp only [cnt] at hc ⊢
      rw [encI, rd, if_neg (by omega), List.append_assoc]
      rcases ownB_cases hok.1 with ⟨N, rfl, rfl, hN, rfl, rfl⟩ | ⟨rfl, rfl, hs, rfl⟩ | ⟨rfl, rfl, hs, rfl, ht⟩ | ⟨rfl, rfl, rfl⟩
      · have e : argN 0 (N : Int) [] [] = N := by simp [argN]
        rw [e, show (0 : Int).toNat = 0 from rfl, hdL_head (.inl rfl) hN]
        simp only [if_pos, drop_len]
        simp [encIs, cnts]
      · have e : argN 2 0 s [] = s.length := by simp [argN]
        rw [e, show (2 : Int).toNat = 2 from rfl, hdL_head (.inr (by omega)) (by omega)]
        simp only [drop_len]
        rw [if_neg (by omega), if_neg (by omega), if_neg (by omega), if_neg (by simp), if_neg (by simp)]
        simp [encIs, cnts]
      · have e : argN 3 0 s [] = s.length := by simp [argN]
        rw [e, show (3 : Int).toNat = 3 from rfl, hdL_head (.inr (by omega)) (by omega)]
        simp only [drop_len]
        rw [if_neg (by omega), if_neg (by omega), if_neg (by omega), if_neg (by simp), if_neg (by simp [encIs, ht])]
        simp [encIs, cnts]
      · have e : argN 4 0 [] l = l.length := by simp [argN]
        have hl := cnts_length l
        rw [e, show (4 : Int).toNat = 4 from rfl, hdL_head (.inr (by omega)) (by omega)]
        simp only [drop_len]
        rw [if_neg (by omega), if_pos trivial, List.nil_append, ihs l (c + 1) r hok.2 (by omega) (by omega)]
        simp only [Except.ok.injEq, Prod.mk.injEq, true_and]
        omega

/-- What is read has just these bytes. -/
theorem rd_back : ∀ (f c : Nat) (l : List UInt8) (x : Itm) (r : List UInt8) (c' : Nat), rd f c l = .ok (x, r, c') → okI x = true ∧ dep x ≤ f ∧ c' = c + cnt x ∧ c' ≤ 60 ∧ l = encI x ++ r := by
  intro f
  induction f with
  | zero => intro c l x r c' h; simp [rd] at h
  | succ f ih =>
    have ihs : ∀ (n c : Nat) (l : List UInt8) (xs : List Itm) (r : List UInt8) (c' : Nat), c ≤ 60 → rdN (rd f) n c l = .ok (xs, r, c') → okIs xs = true ∧ deps xs ≤ f ∧ c' = c + cnts xs ∧ c' ≤ 60 ∧ l = encIs xs ++ r ∧ xs.length = n := by
      intro n
      induction n with
      | zero =>
        intro c l xs r c' hc h
        simp only [rdN, Except.ok.injEq, Prod.mk.injEq] at h
        obtain ⟨rfl, rfl, rfl⟩ := h
        simp [okIs, deps, cnts, encIs, hc]
      | succ n ihn =>
        intro c l xs r c' hc h
        rw [rdN] at h
        cases h1 : rd f c l with
        | error e => rw [h1] at h; cases h
        | ok y =>
          obtain ⟨y, r1, c1⟩ := y
          rw [h1] at h
          simp only [] at h
          cases h2 : rdN (rd f) n c1 r1 with
          | error e => rw [h2] at h; cases h
          | ok ys =>
            obtain ⟨ys, r2, c2⟩ := ys
            rw [h2] at h
            simp only [Except.ok.injEq, Prod.mk.injEq] at h
            obtain ⟨rfl, rfl, rfl⟩ := h
            obtain ⟨a1, a2, a3, a4, a5⟩ := ih _ _ _ _ _ h1
            obtain ⟨b1, b2, b3, b4, b5, b6⟩ := ihn _ _ _ _ _ a4 h2
            refine ⟨by simp [okIs, a1, b1], by simp only [deps]; omega, by simp only [cnts]; omega, b4, by rw [a5, b5, encIs, List.append_assoc], by simp [b6]⟩
    intro c l x r c' h
    rw [rd] at h
    by_cases h60 : 60 ≤ c
    · rw [if_pos h60] at h; cases h
    rw [if_neg h60] at h
    cases hd : hdL l with
    | error e => rw [hd] at h; cases h
    | ok t =>
      obtain ⟨m, n, k⟩ := t
      rw [hd] at h
      simp only [] at h
      obtain ⟨hM, hN, hk, hkl, htk⟩ := hdL_back hd
      have hsp : l = headL m n ++ l.drop k := by
        conv => lhs; rw [← List.take_append_drop k l]
        rw [htk]
      by_cases h0 : m = 0
      · subst h0
        rw [if_pos rfl] at h
        simp only [Except.ok.injEq, Prod.mk.injEq] at h
        obtain ⟨rfl, rfl, rfl⟩ := h
        refine ⟨by simp [okI, okIs, ownB]; omega, by simp [dep, deps], by simp [cnt, cnts], by omega, ?_⟩
        simpa [encI, encIs, argN] using hsp
      rw [if_neg h0] at h
      by_cases h4 : m = 4
      · subst h4
        rw [if_pos rfl] at h
        cases h2 : rdN (rd f) n (c + 1) (l.drop k) with
        | error e => rw [h2] at h; cases h
        | ok ys =>
          obtain ⟨ys, r2, c2⟩ := ys
          rw [h2] at h
          simp only [Except.ok.injEq, Prod.mk.injEq] at h
          obtain ⟨rfl, rfl, rfl⟩ := h
          obtain ⟨b1, b2, b3, b4, b5, b6⟩ := ihs _ _ _ _ _ _ (by omega) h2
          refine ⟨by simp [okI, ownB, b1], by simp only [dep]; omega, by simp only [cnt]; omega, b4, ?_⟩
          rw [hsp, b5]
          simp [encI, argN, b6]
      rw [if_neg h4] at h
      by_cases h6 : 600 < n
      · rw [if_pos h6] at h; cases h
      rw [if_neg h6] at h
      by_cases hl : (l.drop k).length < n
      · rw [if_pos hl] at h; cases h
      rw [if_neg hl] at h
      by_cases ht : m = 3 ∧ txtB ((l.drop k).take n) = false
      · rw [if_pos ht] at h; cases h
      rw [if_neg ht] at h
      simp only [Except.ok.injEq, Prod.mk.injEq] at h
      obtain ⟨rfl, rfl, rfl⟩ := h
      have hln : ((l.drop k).take n).length = n := by rw [List.length_take]; omega
      have hm : m = 2 ∨ m = 3 := by unfold Maj at hM; omega
      have e : l = headL m n ++ ((l.drop k).take n ++ (l.drop k).drop n) := by rw [List.take_append_drop]; exact hsp
      generalize (l.drop k).take n = u at *
      refine ⟨?_, by simp [dep, deps], by simp [cnt, cnts], by omega, ?_⟩
      · rcases hm with rfl | rfl
        · simp [okI, okIs, ownB]; omega
        · have : txtB u = true := by simpa using ht
          simp [okI, okIs, ownB, this]; omega
      · refine e.trans ?_
        rcases hm with rfl | rfl <;> simp [encI, encIs, argN, hln]

theorem takePrefix {a b p : List UInt8} (h : p <+: a ++ b) : p <+: a ∧ p.length < a.length ∨ ∃ q, p = a ++ q ∧ q <+: b := by
  obtain ⟨t, ht⟩ := h
  by_cases hl : p.length < a.length
  · refine .inl ⟨?_, hl⟩
    have := List.prefix_of_prefix_length_le (l₁ := p) (l₂ := a) (l₃ := a ++ b) ⟨t, ht⟩ (List.prefix_append a b) (by omega)
    exact this
  · refine .inr ?_
    have := List.prefix_of_prefix_length_le (l₁ := a) (l₂ := p) (l₃ := a ++ b) (List.prefix_append a b) ⟨t, ht⟩ (by omega)
    obtain ⟨q, hq⟩ := this
    refine ⟨q, hq.symm, t, ?_⟩
    rw [← hq, List.append_assoc] at ht
    exact List.append_cancel_left ht

/-- A beginning of an item's bytes that is not all of them is too short. -/
theorem rd_cut : ∀ (f : Nat) (x : Itm) (c : Nat) (p : List UInt8), okI x = true → dep x ≤ f → c + cnt x ≤ 60 → p <+: encI x → p.length < (encI x).length → rd f c p = .error 11 := by
  intro f
  induction f with
  | zero => intro x c r _ h; cases x; simp [dep] at h
  | succ f ih =>
    have ihs : ∀ (l : List Itm) (c : Nat) (p : List UInt8), okIs l = true → deps l ≤ f → c + cnts l ≤ 60 → p <+: encIs l → p.length < (encIs l).length → rdN (rd f) l.length c p = .error 11 := by
      intro l
      induction l with
      | nil => intro c p _ _ _ _ h; simp [encIs] at h
      | cons x l ihl =>
        intro c p h1 h2 h3 hp hlt
        simp only [okIs, Bool.and_eq_true] at h1
        simp only [deps] at h2
        simp only [cnts] at h3
        rw [encIs] at hp hlt
        rw [List.length_cons, rdN]
        rcases takePrefix hp with ⟨hp', hl⟩ | ⟨q, rfl, hq⟩
        · rw [ih x c p h1.1 (by omega) (by omega) hp' hl]
        · rw [rd_enc f x c q h1.1 (by omega) (by omega)]
          simp only []
          rw [ihl (c + cnt x) q h1.2 (by omega) (by omega) hq (by simp only [List.length_append] at hlt; omega)]
    intro x c p hok hd hc hp hlt
    cases x with
    | mk k n s l =>
      simp only [okI, Bool.and_eq_true] at hok
      simp only [dep] at hd
      simp only [cnt] at hc
      rw [encI] at hp hlt
      rw [rd, if_neg (by omega)]
      have hk : Maj k.toNat ∧ argN k n s l ≤ 281474976710655 := by
        have := cnts_length l
        rcases ownB_cases hok.1 with ⟨N, rfl, rfl, hN, rfl, rfl⟩ | ⟨rfl, rfl, hs, rfl⟩ | ⟨rfl, rfl, hs, rfl, ht⟩ | ⟨rfl, rfl, rfl⟩
        · exact ⟨by decide, by simp [argN]; omega⟩
        · exact ⟨by decide, by simp [argN]; omega⟩
        · exact ⟨by decide, by simp [argN]; omega⟩
        · exact ⟨by decide, by simp [argN]; omega⟩
      rcases takePrefix hp with ⟨hp', hl⟩ | ⟨q, rfl, hq⟩
      · have e : p = (headL k.toNat (argN k n s l)).take p.length := (List.prefix_iff_eq_take.1 hp')
        rw [e, head_short hk.1 hk.2 hl]
      · rw [hdL_head hk.1 hk.2]
        simp only [drop_len]
        have hlq : q.length < (s ++ encIs l).length := by simp only [List.length_append] at hlt ⊢; omega
        rcases ownB_cases hok.1 with ⟨N, rfl, rfl, hN, rfl, rfl⟩ | ⟨rfl, rfl, hs, rfl⟩ | ⟨rfl, rfl, hs, rfl, ht⟩ | ⟨rfl, rfl, rfl⟩
        · simp [encIs] at hlq
        · have e : argN 2 0 s [] = s.length := by simp [argN]
          rw [e, show (2 : Int).toNat = 2 from rfl, if_neg (by omega), if_neg (by omega), if_neg (by omega), if_pos (by simpa [encIs] using hlq)]
        · have e : argN 3 0 s [] = s.length := by simp [argN]
          rw [e, show (3 : Int).toNat = 3 from rfl, if_neg (by omega), if_neg (by omega), if_neg (by omega), if_pos (by simpa [encIs] using hlq)]
        · have e : argN 4 0 [] l = l.length := by simp [argN]
          rw [e, show (4 : Int).toNat = 4 from rfl, if_neg (by omega), if_pos rfl, ihs l (c + 1) q hok.2 (by omega) (by omega) hq hlq]

/-- Two right items have the same bytes just if they are the same. -/
theorem enc_inj {x y : Itm} (hx : okI x = true) (hy : okI y = true) (hcx : cnt x ≤ 60) (hcy : cnt y ≤ 60) (h : encI x = encI y) : x = y := by
  have h1 := rd_enc (max (dep x) (dep y)) x 0 [] hx (by omega) (by omega)
  have h2 := rd_enc (max (dep x) (dep y)) y 0 [] hy (by omega) (by omega)
  rw [h, h2] at h1
  simp only [Except.ok.injEq, Prod.mk.injEq] at h1
  exact h1.1.symm

/-- What is in a right item is right, and has fewer bytes. -/
theorem parts_ok {k n : Int} {s : List UInt8} {l : List Itm} {y : Itm} (hy : y ∈ l) (h : okI (.mk k n s l) = true) : okI y = true ∧ dep y < dep (.mk k n s l) ∧ cnt y < cnt (.mk k n s l) ∧ (encI y).length < (encI (.mk k n s l)).length ∧ k = 4 := by
  have key : ∀ l : List Itm, y ∈ l → okIs l = true → okI y = true ∧ dep y ≤ deps l ∧ cnt y ≤ cnts l ∧ (encI y).length ≤ (encIs l).length := by
    intro l
    induction l with
    | nil => intro h; cases h
    | cons x r ih =>
      intro h hok
      simp only [okIs, Bool.and_eq_true] at hok
      simp only [deps, cnts, encIs, List.length_append]
      rcases List.mem_cons.1 h with rfl | h
      · exact ⟨hok.1, by omega, by omega, by omega⟩
      · obtain ⟨a, b, c, d⟩ := ih h hok.2
        exact ⟨a, by omega, by omega, by omega⟩
  simp only [okI, Bool.and_eq_true] at h
  obtain ⟨a, b, c, d⟩ := key l hy h.2
  refine ⟨a, by simp only [dep]; omega, by simp only [cnt]; omega, by simp only [encI, List.length_append, headL, List.length_cons]; omega, ?_⟩
  rcases ownB_cases h.1 with ⟨N, rfl, rfl, hN, rfl, rfl⟩ | ⟨rfl, rfl, hs, rfl⟩ | ⟨rfl, rfl, hs, rfl, ht⟩ | ⟨rfl, rfl, rfl⟩
  · cases hy
  · cases hy
  · cases hy
  · rfl

mutual
/-- Are two items the same? -/
def sameB : Itm → Itm → Bool
  | .mk k n s l, .mk k' n' s' l' => decide (k = k') && decide (n = n') && (s == s') && sameBs l l'
def sameBs : List Itm → List Itm → Bool
  | [], [] => true
  | x :: r, y :: t => sameB x y && sameBs r t
  | [], _ :: _ => false
  | _ :: _, [] => false
end
mutual
theorem sameB_iff : ∀ x y : Itm, sameB x y = true ↔ x = y
  | .mk k n s l, .mk k' n' s' l' => by
    simp only [sameB, Bool.and_eq_true, decide_eq_true_eq, beq_iff_eq, sameBs_iff l l', Itm.mk.injEq, and_assoc]
theorem sameBs_iff : ∀ l t : List Itm, sameBs l t = true ↔ l = t
  | [], [] => by simp [sameBs]
  | x :: r, y :: t => by simp only [sameBs, Bool.and_eq_true, sameB_iff x y, sameBs_iff r t, List.cons.injEq]
  | [], _ :: _ => by simp [sameBs]
  | _ :: _, [] => by simp [sameBs]
end
theorem sameB_self (x : Itm) : sameB x x = true := (sameB_iff x x).2 rfl

/-- How many items there are, by the document's count: 61, if there are more, or one stands too deep or is not right. -/
def crs (g : Itm → Nat) : Nat → List Itm → Nat
  | n, [] => n
  | n, x :: r => if n ≤ 60 then crs g (n + g x) r else n
def cr : Nat → Itm → Nat
  | 0, _ => 61
  | f + 1, .mk k n s l => if ownB k n s l = true then min (crs (cr f) 1 l) 61 else 61

theorem cr_iff : ∀ (f : Nat) (x : Itm), (cr f x ≤ 60 ↔ okI x = true ∧ dep x ≤ f ∧ cnt x ≤ 60) ∧ (cr f x ≤ 60 → cr f x = cnt x) ∧ cr f x ≤ 61 ∧ 1 ≤ cr f x := by
  intro f
  induction f with
  | zero => intro x; cases x; simp [cr, dep]
  | succ f ih =>
    have key : ∀ (l : List Itm) (n : Nat), (crs (cr f) n l ≤ 60 ↔ n ≤ 60 ∧ okIs l = true ∧ deps l ≤ f ∧ n + cnts l ≤ 60) ∧ (crs (cr f) n l ≤ 60 → crs (cr f) n l = n + cnts l) ∧ n ≤ crs (cr f) n l := by
      intro l
      induction l with
      | nil => intro n; simp [crs, okIs, deps, cnts]
      | cons x r ihr =>
        intro n
        obtain ⟨a1, a2, a3, a4⟩ := ih x
        obtain ⟨b1, b2, b3⟩ := ihr (n + cr f x)
        simp only [crs, okIs, deps, cnts, Bool.and_eq_true]
        by_cases hn : n ≤ 60
        · rw [if_pos hn]
          refine ⟨⟨fun h => ?_, fun ⟨_, ⟨h2, h3⟩, h4, h5⟩ => ?_⟩, fun h => ?_, by omega⟩
          · obtain ⟨c1, c2, c3, c4⟩ := b1.1 h
            have hx : cr f x ≤ 60 := by omega
            obtain ⟨d1, d2, d3⟩ := a1.1 hx
            have := a2 hx
            exact ⟨hn, ⟨d1, c2⟩, by omega, by omega⟩
          · have hx : cr f x ≤ 60 := a1.2 ⟨h2, by omega, by omega⟩
            have := a2 hx
            exact b1.2 ⟨by omega, h3, by omega, by omega⟩
          · obtain ⟨c1, c2, c3, c4⟩ := b1.1 h
            have hx : cr f x ≤ 60 := by omega
            have := a2 hx
            have := b2 h
            omega
        · rw [if_neg hn]
          exact ⟨⟨fun h => absurd h hn, fun h => h.1⟩, fun h => absurd h hn, Nat.le_refl _⟩
    intro x
    cases x with
    | mk k n s l =>
      simp only [cr, okI, dep, cnt, Bool.and_eq_true]
      obtain ⟨b1, b2, b3⟩ := key l 1
      by_cases ho : ownB k n s l = true
      · rw [if_pos ho]
        refine ⟨⟨fun h => ?_, fun ⟨⟨_, h2⟩, h3, h4⟩ => ?_⟩, fun h => ?_, by omega, by omega⟩
        · obtain ⟨c1, c2, c3, c4⟩ := b1.1 (by omega)
          exact ⟨⟨ho, c2⟩, by omega, by omega⟩
        · have := b1.2 ⟨by omega, h2, by omega, by omega⟩
          omega
        · have := b2 (by omega)
          omega
      · rw [if_neg ho]
        exact ⟨⟨fun h => by omega, fun h => absurd h.1.1 ho⟩, fun h => by omega, by omega, by omega⟩

/-- Is an item right? -/
def rightI (x : Itm) : Bool := okI x && decide (dep x ≤ 6) && decide (cnt x ≤ 60)
theorem rightI_iff (x : Itm) : rightI x = true ↔ okI x = true ∧ dep x ≤ 6 ∧ cnt x ≤ 60 := by simp [rightI, and_assoc]
theorem rightI_cr (x : Itm) : rightI x = decide (cr 6 x ≤ 60) := by
  rw [Bool.eq_iff_iff, rightI_iff, decide_eq_true_eq]
  exact (cr_iff 6 x).1.symm

/-- What the statements take of an item: f deep, the first sixty-two items, the first six hundred and one bytes. -/
def cutI : Nat → Itm → Itm
  | 0, .mk k n s _ => .mk k n (s.take 601) []
  | f + 1, .mk k n s l => .mk k n (s.take 601) ((l.take 62).map (cutI f))

/-- What Encode answers of an item: its bytes, and the error's number. -/
def iencR (x : Itm) : List UInt8 × Int := if rightI x = true then (encI x, 0) else ([], 40)
/-- What is read from the beginning of a text's rest: the item, how many bytes; or an error's number. -/
def irdR (l : List UInt8) : Except Int (Itm × List UInt8) := match rd 6 0 l with
  | .error e => .error e
  | .ok (x, r, _) => .ok (x, r)

theorem irdR_enc {x : Itm} (h : rightI x = true) (r : List UInt8) : irdR (encI x ++ r) = .ok (x, r) := by
  obtain ⟨h1, h2, h3⟩ := (rightI_iff x).1 h
  unfold irdR
  rw [rd_enc 6 x 0 r h1 h2 (by omega)]
theorem irdR_back {l r : List UInt8} {x : Itm} (h : irdR l = .ok (x, r)) : rightI x = true ∧ l = encI x ++ r := by
  unfold irdR at h
  cases h1 : rd 6 0 l with
  | error e => rw [h1] at h; cases h
  | ok t =>
    obtain ⟨y, r', c⟩ := t
    rw [h1] at h
    simp only [Except.ok.injEq, Prod.mk.injEq] at h
    obtain ⟨rfl, rfl⟩ := h
    obtain ⟨a1, a2, a3, a4, a5⟩ := rd_back _ _ _ _ _ _ h1
    exact ⟨(rightI_iff _).2 ⟨a1, a2, by omega⟩, a5⟩
theorem irdR_cut {x : Itm} (h : rightI x = true) {j : Nat} (hj : j < (encI x).length) : irdR ((encI x).take j) = .error 11 := by
  obtain ⟨h1, h2, h3⟩ := (rightI_iff x).1 h
  unfold irdR
  rw [rd_cut 6 x 0 _ h1 h2 (by omega) (List.take_prefix _ _) (by rw [List.length_take]; omega)]
theorem encI_inj {x y : Itm} (hx : rightI x = true) (hy : rightI y = true) : (encI x == encI y) = sameB x y := by
  obtain ⟨h1, h2, h3⟩ := (rightI_iff x).1 hx
  obtain ⟨k1, k2, k3⟩ := (rightI_iff y).1 hy
  rw [Bool.eq_iff_iff, beq_iff_eq, sameB_iff]
  exact ⟨enc_inj h1 k1 h3 k3, fun e => by rw [e]⟩
end Go.Proofs.YtmbmolgkccjedaaGreatDoor

/- Names as items (eid7): which item a name has, which name an item: plain mathematics. -/
set_option linter.unusedVariables false
set_option linter.unusedSimpArgs false
namespace Go.Proofs.YtmbmolgkccjedaaGreatDoor

def numI (n : Int) : Itm := .mk 0 n [] []
def txtI (s : List UInt8) : Itm := .mk 3 0 s []
def lstI (l : List Itm) : Itm := .mk 4 0 [] l
def zerI : Itm := .mk 0 0 [] []
/-- A name's item. -/
def itmN (e : Nm) : Itm :=
  if e.k = 1 then lstI [numI 1, txtI (hlv e).2] else if e.k = 2 then lstI [numI 2, lstI [numI e.a, numI e.b]] else lstI [numI 1, numI 0]
def Itm.k : Itm → Int | .mk k _ _ _ => k
def Itm.n : Itm → Int | .mk _ n _ _ => n
def Itm.s : Itm → List UInt8 | .mk _ _ s _ => s
def Itm.l : Itm → List Itm | .mk _ _ _ l => l
/-- What stands at a place, zero if nothing does. -/
def prt (x : Itm) (j : Nat) : Itm := x.l[j]?.getD zerI
/-- A name, read roughly of an item. -/
def rgI (x : Itm) : Nm :=
  if (prt x 1).k = 3 then (jnR [100, 116, 110] (prt x 1).s).getD nm0
  else if (prt x 1).k = 4 then ⟨2, [], [], (prt (prt x 1) 0).n, (prt (prt x 1) 1).n⟩
  else nm0
/-- The name of an item. -/
def nmI (x : Itm) : Option Nm := if nmR (rgI x) = true ∧ sameB (itmN (rgI x)) x = true then some (rgI x) else none

theorem rgI_itm {e : Nm} (h : nmR e = true) : rgI (itmN e) = e := by
  have hj := jnR_hlv h
  rcases nmR_cases h with rfl | ⟨h1, _⟩ | ⟨A, B, rfl, _⟩
  · rfl
  · have e1 : itmN e = lstI [numI 1, txtI (hlv e).2] := if_pos h1
    have e2 : (hlv e).1 = [100, 116, 110] := by unfold hlv; rw [if_pos h1]
    rw [e2] at hj
    rw [e1]
    show (jnR [100, 116, 110] (hlv e).2).getD nm0 = e
    rw [hj]; rfl
  · rfl
theorem nmI_itm {e : Nm} (h : nmR e = true) : nmI (itmN e) = some e := by
  unfold nmI
  rw [rgI_itm h, if_pos ⟨h, sameB_self _⟩]
theorem nmI_back {x : Itm} {e : Nm} (h : nmI x = some e) : nmR e = true ∧ itmN e = x := by
  unfold nmI at h
  split at h
  · rename_i hc
    obtain rfl := Option.some.inj h
    exact ⟨hc.1, (sameB_iff _ _).1 hc.2⟩
  · cases h
theorem nmI_none {x : Itm} (h : nmI x = none) (e : Nm) (he : nmR e = true) : itmN e ≠ x := fun hx => by
  rw [← hx, nmI_itm he] at h
  cases h
theorem itmN_inj {e f : Nm} (he : nmR e = true) (hf : nmR f = true) (h : itmN e = itmN f) : e = f := by
  have := nmI_itm he
  rw [h, nmI_itm hf] at this
  exact (Option.some.inj this).symm
/-- Any rough reading that reads names' own items serves. -/
theorem nmI_rough {x : Itm} {r : Nm} (h : ∀ e, nmR e = true → itmN e = x → r = e) : nmI x = if nmR r = true ∧ sameB (itmN r) x = true then some r else none := by
  by_cases hc : nmR r = true ∧ sameB (itmN r) x = true
  · rw [if_pos hc, ← (sameB_iff _ _).1 hc.2, nmI_itm hc.1]
  · rw [if_neg hc]
    cases hn : nmI x with
    | none => rfl
    | some e =>
      obtain ⟨h1, h2⟩ := nmI_back hn
      obtain rfl := h e h1 h2
      exact absurd ⟨h1, (sameB_iff _ _).2 h2⟩ hc

theorem prt_txt (sl : Bool) {s : List UInt8} (h : partB sl s = true) : (∀ c ∈ s, 32 ≤ c.toNat ∧ c.toNat ≤ 126) ∧ s.length ≤ 20 := by
  unfold partB at h
  rw [Bool.and_eq_true, List.all_eq_true, decide_eq_true_eq] at h
  refine ⟨fun c hc => ?_, h.2⟩
  have := h.1 c hc
  unfold prtB at this
  simp only [Bool.or_eq_true, Bool.and_eq_true, decide_eq_true_eq] at this
  rcases this with (((⟨h1, h2⟩ | ⟨h1, h2⟩) | rfl) | rfl) | ⟨_, rfl⟩
  · omega
  · omega
  · decide
  · decide
  · decide
theorem hlv_txt {e : Nm} (h : nmR e = true) (h1 : e.k = 1) : txtB (hlv e).2 = true ∧ (hlv e).2.length ≤ 43 := by
  rcases nmR_cases h with rfl | ⟨_, _, h3, h4, _⟩ | ⟨A, B, rfl, _⟩
  · exact absurd h1 (by decide)
  · obtain ⟨p1, p2⟩ := prt_txt _ h3
    obtain ⟨q1, q2⟩ := prt_txt _ h4
    have e2 : (hlv e).2 = [47, 47] ++ (e.node ++ ([47] ++ e.serv)) := by unfold hlv; rw [if_pos h1]
    rw [e2]
    refine ⟨?_, by simp only [List.length_append, List.length_cons, List.length_nil]; omega⟩
    unfold txtB
    rw [List.all_eq_true]
    intro c hc
    simp only [List.mem_append, List.mem_cons, List.not_mem_nil, or_false] at hc
    have : 32 ≤ c.toNat ∧ c.toNat ≤ 126 := by
      rcases hc with (rfl | rfl) | hc | rfl | hc
      · exact ⟨by decide, by decide⟩
      · exact ⟨by decide, by decide⟩
      · exact p1 c hc
      · exact ⟨by decide, by decide⟩
      · exact q1 c hc
    simp [this]
  · exact absurd h1 (by show ¬ ((2 : Int) = 1); decide)
theorem itm_ways {e : Nm} (h : nmR e = true) : (e = nm0 ∧ itmN e = lstI [numI 1, numI 0]) ∨ (e.k = 1 ∧ itmN e = lstI [numI 1, txtI (hlv e).2] ∧ txtB (hlv e).2 = true ∧ (hlv e).2.length ≤ 43) ∨ (∃ A B : Nat, e = ⟨2, [], [], A, B⟩ ∧ itmN e = lstI [numI 2, lstI [numI A, numI B]] ∧ A ≤ 999999999 ∧ B ≤ 999999999) := by
  rcases nmR_cases h with rfl | ⟨h1, _⟩ | ⟨A, B, rfl, _, h3, h4⟩
  · exact .inl ⟨rfl, rfl⟩
  · exact .inr (.inl ⟨h1, if_pos h1, hlv_txt h h1⟩)
  · exact .inr (.inr ⟨A, B, rfl, rfl, h3, h4⟩)
theorem num_ok {n : Nat} (h : n ≤ 999999999) : okI (numI n) = true := by
  have h1 : decide ((0 : Int) ≤ (n : Int)) = true := decide_eq_true (by omega)
  have h2 : decide ((n : Int) ≤ 281474976710655) = true := decide_eq_true (by omega)
  simp [numI, okI, ownB, okIs, h1, h2]
theorem txt_ok {s : List UInt8} (h : txtB s = true) (h2 : s.length ≤ 600) : okI (txtI s) = true := by
  simp [txtI, okI, ownB, okIs, h, h2]
theorem dep_num (n : Int) : dep (numI n) = 1 := rfl
theorem cnt_num (n : Int) : cnt (numI n) = 1 := rfl
theorem dep_txt (s : List UInt8) : dep (txtI s) = 1 := rfl
theorem cnt_txt (s : List UInt8) : cnt (txtI s) = 1 := rfl
theorem ok_two {x y : Itm} (hx : okI x = true) (hy : okI y = true) : okI (lstI [x, y]) = true := by
  simp [lstI, okI, ownB, okIs, hx, hy]
theorem dep_two (x y : Itm) : dep (lstI [x, y]) = max (dep x) (dep y) + 1 := by
  show max (dep x) (max (dep y) 0) + 1 = _
  rw [Nat.max_zero]
theorem cnt_two (x y : Itm) : cnt (lstI [x, y]) = cnt x + cnt y + 1 := rfl
theorem itm_right {e : Nm} (h : nmR e = true) : rightI (itmN e) = true := by
  rw [rightI_iff]
  rcases itm_ways h with ⟨_, e1⟩ | ⟨_, e1, h1, h2⟩ | ⟨A, B, _, e1, h1, h2⟩
  · rw [e1]
    exact ⟨by decide, by decide, by decide⟩
  · rw [e1]
    refine ⟨ok_two (by decide) (txt_ok h1 (by omega)), ?_, ?_⟩
    · rw [dep_two, dep_num, dep_txt]; decide
    · rw [cnt_two, cnt_num, cnt_txt]; decide
  · rw [e1]
    refine ⟨ok_two (by decide) (ok_two (num_ok h1) (num_ok h2)), ?_, ?_⟩
    · rw [dep_two, dep_two, dep_num, dep_num, dep_num]; decide
    · rw [cnt_two, cnt_two, cnt_num, cnt_num, cnt_num]; decide
theorem itm_dep (e : Nm) : dep (itmN e) ≤ 3 := by
  unfold itmN
  split
  · rw [dep_two, dep_num, dep_txt]; decide
  · split
    · rw [dep_two, dep_two, dep_num, dep_num, dep_num]; decide
    · decide
theorem itm_list (e : Nm) : ∃ l, itmN e = .mk 4 0 [] l := by
  unfold itmN lstI
  split
  · exact ⟨_, rfl⟩
  · split
    · exact ⟨_, rfl⟩
    · exact ⟨_, rfl⟩
/-- No item's bytes begin another one's. -/
theorem encI_begins {x y : Itm} (hx : rightI x = true) (hy : rightI y = true) (h : encI x <+: encI y) : x = y := by
  obtain ⟨r, hr⟩ := h
  have h1 := irdR_enc hx r
  rw [hr] at h1
  have h2 := irdR_enc hy []
  rw [List.append_nil] at h2
  rw [h1] at h2
  injection h2 with h2
  exact (Prod.mk.inj h2).1
end Go.Proofs.YtmbmolgkccjedaaGreatDoor
