/- Numbers and their groups, as lists of bytes: plain mathematics. -/
import Derived.Test.YtajeanmmelldnaaDoorChecked
set_option linter.unusedVariables false
set_option linter.unusedSimpArgs false
namespace Go.Proofs.YtajeanmmelldnaaDoor

/-- The number that groups tell. -/
def val7 (l : List UInt8) : Nat := l.foldl (fun a b => 128 * a + b.toNat % 128) 0
theorem val7_snoc (l : List UInt8) (b : UInt8) : val7 (l ++ [b]) = 128 * val7 l + b.toNat % 128 := by simp [val7]
theorem val7_le_append (l r : List UInt8) : val7 l ≤ val7 (l ++ r) := by
  have h : ∀ (k : Nat) (r : List UInt8), r.length = k → val7 l ≤ val7 (l ++ r) := by
    intro k
    induction k with
    | zero => intro r hr; have : r = [] := List.eq_nil_of_length_eq_zero hr; subst this; simp
    | succ k ih =>
      intro r hr
      obtain ⟨q, b, rfl⟩ : ∃ q b, r = q ++ [b] := by
        rcases List.eq_nil_or_concat r with rfl | ⟨q, b, rfl⟩
        · simp at hr
        · exact ⟨q, b, by simp⟩
      have := ih q (by simpa using hr)
      rw [← List.append_assoc, val7_snoc]
      omega
  exact h _ r rfl

/-- The groups ahead of the last one. -/
def hiL (n : Nat) : List UInt8 := if h : n = 0 then [] else hiL (n / 128) ++ [UInt8.ofNat (128 + n % 128)]
termination_by n
decreasing_by omega
theorem hiL_zero : hiL 0 = [] := by rw [hiL]; simp
theorem hiL_pos {n : Nat} (h : n ≠ 0) : hiL n = hiL (n / 128) ++ [UInt8.ofNat (128 + n % 128)] := by rw [hiL]; simp [h]
/-- The groups of a number. -/
def grpL (n : Nat) : List UInt8 := hiL (n / 128) ++ [UInt8.ofNat (n % 128)]

theorem u8_hi (k : Nat) (h : k < 128) : (UInt8.ofNat (128 + k)).toNat = 128 + k := by simp; omega
theorem u8_lo (k : Nat) (h : k < 128) : (UInt8.ofNat k).toNat = k := by simp; omega

theorem val7_hiL (n : Nat) : val7 (hiL n) = n := by
  induction n using Nat.strongRecOn with
  | _ n ih =>
    by_cases h : n = 0
    · subst h; rw [hiL_zero]; rfl
    · rw [hiL_pos h, val7_snoc, ih (n / 128) (by omega), u8_hi _ (by omega)]
      omega
theorem val7_grpL (n : Nat) : val7 (grpL n) = n := by
  unfold grpL
  rw [val7_snoc, val7_hiL, u8_lo _ (by omega)]
  omega
theorem grpL_inj {n m : Nat} (h : grpL n = grpL m) : n = m := by rw [← val7_grpL n, h, val7_grpL]

theorem hiL_big (n : Nat) : ∀ b ∈ hiL n, 128 ≤ b.toNat := by
  induction n using Nat.strongRecOn with
  | _ n ih =>
    intro b hb
    by_cases h : n = 0
    · subst h; rw [hiL_zero] at hb; cases hb
    · rw [hiL_pos h, List.mem_append] at hb
      rcases hb with hb | hb
      · exact ih _ (by omega) b hb
      · have : b = UInt8.ofNat (128 + n % 128) := by simpa using hb
        subst this
        rw [u8_hi _ (by omega)]
        omega

theorem hiL_head (n : Nat) (h : n ≠ 0) : ∃ b r, hiL n = b :: r ∧ 128 < b.toNat := by
  induction n using Nat.strongRecOn with
  | _ n ih =>
    by_cases h0 : n / 128 = 0
    · refine ⟨UInt8.ofNat (128 + n % 128), [], ?_, ?_⟩
      · rw [hiL_pos h, h0, hiL_zero]; rfl
      · rw [u8_hi _ (by omega)]; omega
    · obtain ⟨b, r, e, hb⟩ := ih (n / 128) (by omega) h0
      exact ⟨b, r ++ [UInt8.ofNat (128 + n % 128)], by rw [hiL_pos h, e]; rfl, hb⟩

theorem grpL_head (n : Nat) : ∃ b r, grpL n = b :: r ∧ b.toNat ≠ 128 := by
  unfold grpL
  by_cases h : n / 128 = 0
  · exact ⟨UInt8.ofNat (n % 128), [], by rw [h, hiL_zero]; rfl, by rw [u8_lo _ (by omega)]; omega⟩
  · obtain ⟨b, r, e, hb⟩ := hiL_head _ h
    exact ⟨b, r ++ [UInt8.ofNat (n % 128)], by rw [e]; rfl, by omega⟩

theorem hiL_length_le {n m : Nat} (h : n ≤ m) : (hiL n).length ≤ (hiL m).length := by
  induction m using Nat.strongRecOn generalizing n with
  | _ m ih =>
    by_cases hm : m = 0
    · have : n = 0 := by omega
      subst this; subst hm; exact Nat.le_refl _
    · by_cases hn : n = 0
      · subst hn; rw [hiL_zero]; simp
      · have := ih (m / 128) (by omega) (n := n / 128) (Nat.div_le_div_right h)
        rw [hiL_pos hn, hiL_pos hm]
        simpa using this
theorem grpL_length_le {n m : Nat} (h : n ≤ m) : (grpL n).length ≤ (grpL m).length := by
  have := hiL_length_le (Nat.div_le_div_right (c := 128) h)
  unfold grpL
  simpa using this
theorem hiL_length_lt (k : Nat) : ∀ n, n < 128 ^ k → (hiL n).length ≤ k := by
  induction k with
  | zero => intro n h; have : n = 0 := by simpa using h
            subst this; rw [hiL_zero]; simp
  | succ k ih =>
    intro n h
    by_cases hn : n = 0
    · subst hn; rw [hiL_zero]; simp
    · rw [hiL_pos hn]
      have := ih (n / 128) (by rw [Nat.pow_succ] at h; omega)
      simpa using this
theorem grpL_length {n : Nat} (h : n ≤ 281474976710655) : 1 ≤ (grpL n).length ∧ (grpL n).length ≤ 7 := by
  have := hiL_length_lt 6 (n / 128) (by omega)
  unfold grpL
  simp
  omega

/-- A number's groups at the beginning of a row of bytes, and what stands behind them. -/
def spanG : List UInt8 → Option (List UInt8 × List UInt8)
  | [] => none
  | b :: r => if b.toNat < 128 then some ([b], r) else match spanG r with | none => none | some (g, t) => some (b :: g, t)

/-- Groups as such: all but the last one are great, the last one is not. -/
structure Grp (g : List UInt8) : Prop where
  form : ∃ h b, g = h ++ [b] ∧ (∀ x ∈ h, 128 ≤ x.toNat) ∧ b.toNat < 128

theorem spanG_none {l : List UInt8} (h : ∀ x ∈ l, 128 ≤ x.toNat) : spanG l = none := by
  induction l with
  | nil => rfl
  | cons b r ih =>
    have hb := h b (by simp)
    rw [spanG, if_neg (by omega), ih fun x hx => h x (by simp [hx])]
theorem spanG_app {h : List UInt8} {b : UInt8} (r : List UInt8) (hh : ∀ x ∈ h, 128 ≤ x.toNat) (hb : b.toNat < 128) : spanG (h ++ [b] ++ r) = some (h ++ [b], r) := by
  induction h with
  | nil => simp [spanG, hb]
  | cons c q ih =>
    have hc := hh c (by simp)
    have := ih fun x hx => hh x (by simp [hx])
    simp only [List.cons_append] at this ⊢
    rw [spanG, if_neg (by omega), this]
theorem spanG_some {l g t : List UInt8} (h : spanG l = some (g, t)) : l = g ++ t ∧ Grp g := by
  induction l generalizing g t with
  | nil => cases h
  | cons b r ih =>
    rw [spanG] at h
    by_cases hb : b.toNat < 128
    · rw [if_pos hb] at h
      simp only [Option.some.injEq, Prod.mk.injEq] at h
      obtain ⟨rfl, rfl⟩ := h
      exact ⟨rfl, ⟨[], b, rfl, by simp, hb⟩⟩
    · rw [if_neg hb] at h
      cases hs : spanG r with
      | none => rw [hs] at h; cases h
      | some p =>
        obtain ⟨g', t'⟩ := p
        rw [hs] at h
        simp only [Option.some.injEq, Prod.mk.injEq] at h
        obtain ⟨rfl, rfl⟩ := h
        obtain ⟨e, ⟨q, c, e2, hq, hc⟩⟩ := ih hs
        refine ⟨by rw [e]; rfl, ⟨b :: q, c, by rw [e2]; rfl, ?_, hc⟩⟩
        intro x hx
        rcases List.mem_cons.1 hx with rfl | hx
        · omega
        · exact hq x hx
theorem spanG_none_all {l : List UInt8} (h : spanG l = none) : ∀ x ∈ l, 128 ≤ x.toNat := by
  induction l with
  | nil => intro x hx; cases hx
  | cons b r ih =>
    rw [spanG] at h
    by_cases hb : b.toNat < 128
    · rw [if_pos hb] at h; cases h
    · rw [if_neg hb] at h
      cases hs : spanG r with
      | some p => rw [hs] at h; cases h
      | none =>
        intro x hx
        rcases List.mem_cons.1 hx with rfl | hx
        · omega
        · exact ih hs x hx
theorem spanG_len {l g t : List UInt8} (h : spanG l = some (g, t)) : 1 ≤ g.length ∧ l.length = g.length + t.length := by
  obtain ⟨e, ⟨q, c, e2, _, _⟩⟩ := spanG_some h
  subst e2
  exact ⟨by simp, by rw [e]; simp; omega⟩
theorem spanG_grp (n : Nat) (r : List UInt8) : spanG (grpL n ++ r) = some (grpL n, r) := by
  unfold grpL
  exact spanG_app r (hiL_big _) (by rw [u8_lo _ (by omega)]; omega)

theorem hiL_val : ∀ (k : Nat) (g : List UInt8), g.length = k → (∀ x ∈ g, 128 ≤ x.toNat) → (∀ b r, g = b :: r → b.toNat ≠ 128) → hiL (val7 g) = g := by
  intro k
  induction k with
  | zero => intro g hg _ _; have : g = [] := List.eq_nil_of_length_eq_zero hg; subst this; exact hiL_zero
  | succ k ih =>
    intro g hg hbig hhead
    obtain ⟨q, c, rfl⟩ : ∃ q c, g = q ++ [c] := by
      rcases List.eq_nil_or_concat g with rfl | ⟨q, c, rfl⟩
      · simp at hg
      · exact ⟨q, c, by simp⟩
    have hc := hbig c (by simp)
    have hc2 := c.toNat_lt
    have hq : hiL (val7 q) = q := ih q (by simpa using hg) (fun x hx => hbig x (by simp [hx])) (fun b r e => hhead b (r ++ [c]) (by rw [e]; rfl))
    have hne : val7 (q ++ [c]) ≠ 0 := by
      rw [val7_snoc]
      rcases q with _ | ⟨b, r⟩
      · have := hhead c [] rfl
        simp [val7]; omega
      · have h0 : val7 (b :: r) ≠ 0 := fun e => by rw [e, hiL_zero] at hq; cases hq
        omega
    rw [hiL_pos hne, val7_snoc]
    have e1 : (128 * val7 q + c.toNat % 128) / 128 = val7 q := by omega
    have e2 : 128 + (128 * val7 q + c.toNat % 128) % 128 = c.toNat := by omega
    rw [e1, e2, hq]
    simp
theorem grpL_val {g : List UInt8} (h : Grp g) (hh : g.head? ≠ some 128) : grpL (val7 g) = g := by
  obtain ⟨q, b, rfl, hq, hb⟩ := h
  unfold grpL
  rw [val7_snoc]
  have e1 : (128 * val7 q + b.toNat % 128) / 128 = val7 q := by omega
  have e2 : (128 * val7 q + b.toNat % 128) % 128 = b.toNat := by omega
  rw [e1, e2, hiL_val _ q rfl hq (fun c r e hc => hh (by
    subst e
    have : c = 128 := UInt8.toNat_inj.1 hc
    simp [this]))]
  simp

/-- What is decoded at the beginning of a row of bytes: an error's number, or a number and what stands behind. -/
def decL (l : List UInt8) : Except Int (Nat × List UInt8) :=
  match spanG l with
  | none => .error 11
  | some (g, t) => if g.head? = some 128 then .error 20 else if 281474976710655 < val7 g then .error 10 else .ok (val7 g, t)

theorem decL_none {l : List UInt8} (h : spanG l = none) : decL l = .error 11 := by unfold decL; rw [h]
theorem decL_form {l g t : List UInt8} (h : spanG l = some (g, t)) (hh : g.head? = some 128) : decL l = .error 20 := by unfold decL; rw [h]; simp [hh]
theorem decL_num {l g t : List UInt8} (h : spanG l = some (g, t)) (hh : g.head? ≠ some 128) (hv : 281474976710655 < val7 g) : decL l = .error 10 := by unfold decL; rw [h]; simp [hh, hv]
theorem decL_ok {l g t : List UInt8} (h : spanG l = some (g, t)) (hh : g.head? ≠ some 128) (hv : val7 g ≤ 281474976710655) : decL l = .ok (val7 g, t) := by unfold decL; rw [h]; simp [hh]; omega
theorem decL_grp (n : Nat) (r : List UInt8) (hn : n ≤ 281474976710655) : decL (grpL n ++ r) = .ok (n, r) := by
  have h := spanG_grp n r
  obtain ⟨b, q, e, hb⟩ := grpL_head n
  rw [decL_ok h (by rw [e]; simp; intro h2; subst h2; exact hb rfl) (by rw [val7_grpL]; exact hn), val7_grpL]
theorem decL_back {l t : List UInt8} {n : Nat} (h : decL l = .ok (n, t)) : l = grpL n ++ t ∧ n ≤ 281474976710655 := by
  cases hs : spanG l with
  | none => rw [decL_none hs] at h; cases h
  | some p =>
    obtain ⟨g, t'⟩ := p
    by_cases hh : g.head? = some 128
    · rw [decL_form hs hh] at h; cases h
    · by_cases hv : 281474976710655 < val7 g
      · rw [decL_num hs hh hv] at h; cases h
      · rw [decL_ok hs hh (by omega)] at h
        simp only [Except.ok.injEq, Prod.mk.injEq] at h
        obtain ⟨rfl, rfl⟩ := h
        obtain ⟨e, hg⟩ := spanG_some hs
        exact ⟨by rw [grpL_val hg hh]; exact e, by omega⟩
theorem decL_len {l t : List UInt8} {n : Nat} (h : decL l = .ok (n, t)) : t.length < l.length := by
  obtain ⟨e, hn⟩ := decL_back h
  have := grpL_length hn
  rw [e]
  simp
  omega
/-- What stands behind is of no account. -/
theorem decL_app {l t : List UInt8} {n : Nat} (h : decL l = .ok (n, t)) (r : List UInt8) : decL (l ++ r) = .ok (n, t ++ r) := by
  obtain ⟨e, hn⟩ := decL_back h
  rw [e, List.append_assoc]
  exact decL_grp n _ hn
theorem decL_nil : decL [] = .error 11 := rfl

/-- All numbers of a row of bytes, or the first error's number. -/
def allF : Nat → List UInt8 → Except Int (List Nat)
  | 0, _ => .ok []
  | f + 1, l => if l = [] then .ok [] else match decL l with
    | .error k => .error k
    | .ok (n, t) => match allF f t with
      | .error k => .error k
      | .ok ns => .ok (n :: ns)
theorem allF_more : ∀ (f : Nat) (l : List UInt8), l.length ≤ f → allF f l = allF l.length l := by
  intro f
  induction f using Nat.strongRecOn with
  | _ f ih =>
    intro l hl
    rcases f with _ | f
    · have : l.length = 0 := by omega
      rw [this]
    · rcases l with _ | ⟨b, r⟩
      · simp [allF]
      · rw [List.length_cons, allF, allF, if_neg (by simp), if_neg (by simp)]
        cases hd : decL (b :: r) with
        | error k => rfl
        | ok p =>
          obtain ⟨n, t⟩ := p
          have ht := decL_len hd
          simp only [List.length_cons] at ht hl
          simp only
          rw [ih f (by omega) t (by omega)]
          by_cases e : r.length = f
          · rw [e, ih f (by omega) t (by omega)]
          · rw [ih r.length (by omega) t (by omega)]
def allL (l : List UInt8) : Except Int (List Nat) := allF l.length l
theorem allL_nil : allL [] = .ok [] := rfl
theorem allL_error {l : List UInt8} {k : Int} (h : decL l = .error k) (hl : l ≠ []) : allL l = .error k := by
  rcases l with _ | ⟨b, r⟩
  · exact absurd rfl hl
  · unfold allL
    rw [List.length_cons, allF, if_neg (by simp), h]
/-- All numbers, one at the beginning put to them. -/
def consE (n : Nat) : Except Int (List Nat) → Except Int (List Nat)
  | .error k => .error k
  | .ok ns => .ok (n :: ns)
theorem allL_ok {l t : List UInt8} {n : Nat} (h : decL l = .ok (n, t)) : allL l = consE n (allL t) := by
  rcases l with _ | ⟨b, r⟩
  · rw [decL_nil] at h; cases h
  · have ht := decL_len h
    simp only [List.length_cons] at ht
    unfold allL
    rw [List.length_cons, allF, if_neg (by simp), h]
    simp only
    rw [allF_more r.length t (by omega)]
    cases allF t.length t <;> rfl

/-- Numbers put ahead of all others. -/
def preE (ns : List Nat) : Except Int (List Nat) → Except Int (List Nat)
  | .error k => .error k
  | .ok ms => .ok (ns ++ ms)
theorem preE_nil (x : Except Int (List Nat)) : preE [] x = x := by cases x <;> rfl
theorem preE_snoc (ns : List Nat) (n : Nat) (x : Except Int (List Nat)) : preE (ns ++ [n]) x = preE ns (consE n x) := by cases x <;> simp [preE, consE]

/-- The groups of many numbers. -/
def catL (ns : List Nat) : List UInt8 := (ns.map grpL).flatten
theorem catL_nil : catL [] = [] := rfl
theorem catL_cons (n : Nat) (ns : List Nat) : catL (n :: ns) = grpL n ++ catL ns := by simp [catL]
theorem catL_snoc (ns : List Nat) (n : Nat) : catL (ns ++ [n]) = catL ns ++ grpL n := by simp [catL]
theorem catL_length (ns : List Nat) (h : ∀ n ∈ ns, n ≤ 281474976710655) : (catL ns).length ≤ 7 * ns.length := by
  induction ns with
  | nil => simp [catL]
  | cons n r ih =>
    have h1 := ih fun x hx => h x (by simp [hx])
    have h2 := grpL_length (h n (by simp))
    rw [catL_cons, List.length_append, List.length_cons]
    omega
theorem allL_cat (ns : List Nat) (r : List UInt8) (h : ∀ n ∈ ns, n ≤ 281474976710655) : allL (catL ns ++ r) = preE ns (allL r) := by
  induction ns with
  | nil => rw [catL_nil, preE_nil]; rfl
  | cons n q ih =>
    rw [catL_cons, List.append_assoc, allL_ok (decL_grp n _ (h n (by simp))), ih fun x hx => h x (by simp [hx])]
    cases allL r <;> rfl
theorem allL_back : ∀ (k : Nat) (l : List UInt8), l.length ≤ k → ∀ ns, allL l = .ok ns → l = catL ns ∧ (∀ n ∈ ns, n ≤ 281474976710655) ∧ ns.length ≤ l.length := by
  intro k
  induction k with
  | zero =>
    intro l hl ns h
    have : l = [] := List.eq_nil_of_length_eq_zero (by omega)
    subst this
    rw [allL_nil] at h
    have : ns = [] := by simpa using h.symm
    subst this
    exact ⟨rfl, by simp, by simp⟩
  | succ k ih =>
    intro l hl ns h
    by_cases hn : l = []
    · subst hn
      rw [allL_nil] at h
      have : ns = [] := by simpa using h.symm
      subst this
      exact ⟨rfl, by simp, by simp⟩
    · cases hd : decL l with
      | error e => rw [allL_error hd hn] at h; cases h
      | ok p =>
        obtain ⟨n, t⟩ := p
        have ht := decL_len hd
        obtain ⟨e, hn'⟩ := decL_back hd
        rw [allL_ok hd] at h
        cases ha : allL t with
        | error e => rw [ha] at h; cases h
        | ok ms =>
          rw [ha] at h
          have : ns = n :: ms := by simpa [consE] using h.symm
          subst this
          obtain ⟨e2, h2, h3⟩ := ih t (by omega) ms ha
          refine ⟨by rw [catL_cons, ← e2]; exact e, ?_, by simp; omega⟩
          intro x hx
          rcases List.mem_cons.1 hx with rfl | hx
          · exact hn'
          · exact h2 x hx
theorem allL_app {s : List UInt8} {ns : List Nat} (h : allL s = .ok ns) (t : List UInt8) : allL (s ++ t) = preE ns (allL t) := by
  obtain ⟨e, h2, _⟩ := allL_back _ s (Nat.le_refl _) ns h
  rw [e]
  exact allL_cat ns t h2
end Go.Proofs.YtajeanmmelldnaaDoor
