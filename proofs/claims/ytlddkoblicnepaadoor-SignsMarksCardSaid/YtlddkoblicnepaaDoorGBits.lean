/- Package signs: flags that go up and come down, as bits. -/
import Derived.Test.YtlddkoblicnepaaDoorGRefT
set_option linter.unusedVariables false
set_option linter.unusedSimpArgs false
namespace Go.Proofs.YtlddkoblicnepaaDoor

theorem neg_and (X M : BitVec 64) (h : onlyB X M = true) : X = X &&& M := (only_keep h).symm
theorem or_zero' (X : BitVec 64) : X ||| 0#64 = X := by simp
theorem beq_dec {a b : BitVec 64} : (a == b) = decide (a = b) := by
  by_cases h : a = b <;> simp [h]
/-- One flag: it is there, or not. -/
theorem one_bit (X : BitVec 64) (k : Nat) (hk : k < 64) : X &&& BitVec.twoPow 64 k = 0#64 ∨ X &&& BitVec.twoPow 64 k = BitVec.twoPow 64 k := by
  cases h : X.getLsbD k with
  | false =>
    refine .inl (BitVec.eq_of_getLsbD_eq fun j hj => ?_)
    rw [BitVec.getLsbD_and, BitVec.getLsbD_twoPow]
    by_cases e : k = j
    · subst e; rw [h]; simp
    · simp [e]
  | true =>
    refine .inr (BitVec.eq_of_getLsbD_eq fun j hj => ?_)
    rw [BitVec.getLsbD_and, BitVec.getLsbD_twoPow]
    by_cases e : k = j
    · subst e; rw [h]; simp
    · simp [e]
theorem bit8 (X : BitVec 64) : X &&& 8#64 = 0#64 ∨ X &&& 8#64 = 8#64 := one_bit X 3 (by decide)
theorem bit16 (X : BitVec 64) : X &&& 16#64 = 0#64 ∨ X &&& 16#64 = 16#64 := one_bit X 4 (by decide)
theorem bit64 (X : BitVec 64) : X &&& 64#64 = 0#64 ∨ X &&& 64#64 = 64#64 := one_bit X 6 (by decide)

theorem badG3 {p q r : Bool} {i j k : Nat} : badG [(p, i), (q, j), (r, k)] = none ↔ p = true ∧ q = true ∧ r = true := by
  cases p <;> cases q <;> cases r <;> simp [badG]
theorem badG1 {p : Bool} {i : Nat} : badG [(p, i)] = none ↔ p = true := by
  cases p <;> simp [badG]

/-- The class: how many times Priority, and Custody. -/
def custB (X : BitVec 64) : Bool := !(X &&& 8#64 == 0#64)

theorem mulF_of (X : BitVec 64) : mulF (prioI X) = X &&& 384#64 := by
  rcases prio_cases X with ⟨h, h'⟩ | ⟨h, h'⟩ | ⟨h, h'⟩ | ⟨h, h'⟩ <;> rw [h, h'] <;> rfl

theorem prio_0le (X : BitVec 64) : 0 ≤ prioI X := by
  rcases prio_cases X with ⟨h, h'⟩ | ⟨h, h'⟩ | ⟨h, h'⟩ | ⟨h, h'⟩ <;> rw [h'] <;> decide

/-- What goes up, in parts. -/
theorem up_parts {X : BitVec 64} (h : upO X = none) : rightSixB X = true ∧ X &&& 32768#64 = 0#64 ∧ X &&& 16#64 = 16#64 := by
  obtain ⟨h1, h2, h3⟩ := badG3.1 h
  refine ⟨h1, beq_iff_eq.1 h2, ?_⟩
  rcases bit16 X with e | e
  · rw [e] at h3; cases h3
  · exact e

theorem split6 (X : BitVec 64) : X &&& 508351#64 = (((X &&& 475175#64) ||| (X &&& 16#64)) ||| (X &&& 384#64)) ||| (X &&& 8#64) ||| (X &&& 32768#64) := by
  rw [← BitVec.and_or_distrib_left, ← BitVec.and_or_distrib_left, ← BitVec.and_or_distrib_left, ← BitVec.and_or_distrib_left]; rfl

theorem upF_rep (X : BitVec 64) : upF X &&& 475136#64 = X &&& 475136#64 := by
  unfold upF
  split
  · rw [BitVec.and_assoc]; rfl
  · rw [BitVec.and_or_distrib_right, BitVec.and_assoc]
    show (X &&& 475136#64) ||| 0#64 = _
    rw [or_zero']
theorem upF_both (X : BitVec 64) : upF X &&& 475175#64 = X &&& 475175#64 := by
  unfold upF
  split
  · rw [BitVec.and_assoc]; rfl
  · rw [BitVec.and_or_distrib_right, BitVec.and_assoc]
    show (X &&& 475175#64) ||| 0#64 = _
    rw [or_zero']
theorem upF_timed (X : BitVec 64) : upF X &&& 64#64 = if X &&& 475136#64 = 0#64 then 0#64 else 64#64 := by
  unfold upF
  split
  · rw [BitVec.and_assoc]
    show X &&& 0#64 = _
    simp
  · rw [BitVec.and_or_distrib_right, BitVec.and_assoc]
    show (X &&& 0#64) ||| 64#64 = _
    simp
theorem upF_only (X : BitVec 64) : onlyB (upF X) 475239#64 = true := by
  unfold onlyB
  rw [beq_iff_eq]
  unfold upF
  split
  · rw [BitVec.and_assoc]
    show X &&& 0#64 = _
    simp
  · rw [BitVec.and_or_distrib_right, BitVec.and_assoc]
    show (X &&& 0#64) ||| 0#64 = _
    simp

theorem timed_ok (X : BitVec 64) : ((!(upF X &&& 64#64 == 0#64)) == (!(upF X &&& 475136#64 == 0#64))) = true := by
  rw [upF_rep, upF_timed]
  by_cases h : X &&& 475136#64 = 0#64
  · rw [if_pos h, h]; rfl
  · rw [if_neg h, beq_eq_false_iff_ne.2 h]; rfl

/-- Flags that go up come down. -/
theorem back_up {X : BitVec 64} (h : upO X = none) : downO (upF X) (prioI X) = none ∧ downF (upF X) (prioI X) (custB X) = X := by
  obtain ⟨h1, h2, h3⟩ := up_parts h
  have h1' : onlyB X 508351#64 = true ∧ prioI X ≤ 2 := by
    unfold rightSixB at h1
    rw [Bool.and_eq_true, decide_eq_true_eq] at h1
    exact h1
  constructor
  · refine badG3.2 ⟨upF_only X, ?_, timed_ok X⟩
    unfold withinB
    simp [prio_0le X, h1'.2]
  · have e := only_keep h1'.1
    rw [split6, h2, h3, or_zero'] at e
    unfold downF
    rw [upF_both, mulF_of]
    unfold custB
    rcases bit8 X with h8 | h8
    · rw [h8] at e ⊢
      rw [or_zero'] at e
      exact e
    · rw [h8] at e ⊢
      exact e

theorem mul_cases {m : Int} (h : withinB m 0 2 = true) : (m = 0 ∧ mulF m = 0#64) ∨ (m = 1 ∧ mulF m = 128#64) ∨ (m = 2 ∧ mulF m = 256#64) := by
  unfold withinB at h
  simp at h
  rcases (show m = 0 ∨ m = 1 ∨ m = 2 by omega) with rfl | rfl | rfl
  · exact .inl ⟨rfl, rfl⟩
  · exact .inr (.inl ⟨rfl, rfl⟩)
  · exact .inr (.inr ⟨rfl, rfl⟩)

def custM (c : Bool) : BitVec 64 := if c then 8#64 else 0#64
theorem downF_m (X : BitVec 64) (n : Int) (c : Bool) : downF X n c = (((X &&& 475175#64) ||| 16#64) ||| mulF n) ||| custM c := by
  cases c
  · show _ = _ ||| 0#64
    rw [or_zero']; rfl
  · rfl
/-- Flags that came down, through a mask. -/
theorem downF_and (X M : BitVec 64) (n : Int) (c : Bool) : downF X n c &&& M = (((X &&& (475175#64 &&& M)) ||| (16#64 &&& M)) ||| (mulF n &&& M)) ||| (custM c &&& M) := by
  rw [downF_m, BitVec.and_or_distrib_right, BitVec.and_or_distrib_right, BitVec.and_or_distrib_right, BitVec.and_assoc]

theorem down_only {G : BitVec 64} {m : Int} (hm : withinB m 0 2 = true) (c : Bool) : onlyB (downF G m c) 508351#64 = true := by
  unfold onlyB
  rw [beq_iff_eq, downF_and]
  show (((G &&& 0#64) ||| _) ||| _) ||| _ = _
  rcases mul_cases hm with ⟨_, e⟩ | ⟨_, e⟩ | ⟨_, e⟩ <;> rw [e] <;> cases c <;> simp [custM]
theorem down_prio {G : BitVec 64} {m : Int} (hm : withinB m 0 2 = true) (c : Bool) : prioI (downF G m c) = m := by
  have k : downF G m c &&& 384#64 = mulF m := by
    rw [downF_and]
    show (((G &&& 0#64) ||| _) ||| _) ||| _ = _
    rcases mul_cases hm with ⟨_, e⟩ | ⟨_, e⟩ | ⟨_, e⟩ <;> rw [e] <;> cases c <;> simp [custM]
  unfold prioI
  rw [k]
  rcases mul_cases hm with ⟨e', e⟩ | ⟨e', e⟩ | ⟨e', e⟩ <;> rw [e, e'] <;> decide
theorem down_cust {G : BitVec 64} {m : Int} (hm : withinB m 0 2 = true) (c : Bool) : downF G m c &&& 8#64 = custM c := by
  rw [downF_and]
  show (((G &&& 0#64) ||| _) ||| _) ||| _ = _
  rcases mul_cases hm with ⟨_, e⟩ | ⟨_, e⟩ | ⟨_, e⟩ <;> rw [e] <;> cases c <;> simp [custM]
theorem down_single {G : BitVec 64} {m : Int} (hm : withinB m 0 2 = true) (c : Bool) : downF G m c &&& 16#64 = 16#64 := by
  rw [downF_and]
  show (((G &&& 0#64) ||| _) ||| _) ||| _ = _
  rcases mul_cases hm with ⟨_, e⟩ | ⟨_, e⟩ | ⟨_, e⟩ <;> rw [e] <;> cases c <;> simp [custM]
theorem down_accepted {G : BitVec 64} {m : Int} (hm : withinB m 0 2 = true) (c : Bool) : downF G m c &&& 32768#64 = 0#64 := by
  rw [downF_and]
  show (((G &&& 0#64) ||| _) ||| _) ||| _ = _
  rcases mul_cases hm with ⟨_, e⟩ | ⟨_, e⟩ | ⟨_, e⟩ <;> rw [e] <;> cases c <;> simp [custM]
theorem down_timed {G : BitVec 64} {m : Int} (hm : withinB m 0 2 = true) (c : Bool) : downF G m c &&& 64#64 = 0#64 := by
  rw [downF_and]
  show (((G &&& 0#64) ||| _) ||| _) ||| _ = _
  rcases mul_cases hm with ⟨_, e⟩ | ⟨_, e⟩ | ⟨_, e⟩ <;> rw [e] <;> cases c <;> simp [custM]
theorem down_rep {G : BitVec 64} {m : Int} (hm : withinB m 0 2 = true) (c : Bool) : downF G m c &&& 475136#64 = G &&& 475136#64 := by
  rw [downF_and]
  show (((G &&& 475136#64) ||| _) ||| _) ||| _ = _
  rcases mul_cases hm with ⟨_, e⟩ | ⟨_, e⟩ | ⟨_, e⟩ <;> rw [e] <;> cases c <;> simp [custM]
theorem down_both {G : BitVec 64} {m : Int} (hm : withinB m 0 2 = true) (c : Bool) : downF G m c &&& 475175#64 = G &&& 475175#64 := by
  rw [downF_and]
  show (((G &&& 475175#64) ||| _) ||| _) ||| _ = _
  rcases mul_cases hm with ⟨_, e⟩ | ⟨_, e⟩ | ⟨_, e⟩ <;> rw [e] <;> cases c <;> simp [custM]

theorem down_parts {G : BitVec 64} {m : Int} (h : downO G m = none) : onlyB G 475239#64 = true ∧ withinB m 0 2 = true ∧ G &&& 64#64 = (if G &&& 475136#64 = 0#64 then 0#64 else 64#64) := by
  obtain ⟨h1, h2, h3⟩ := badG3.1 h
  refine ⟨h1, h2, ?_⟩
  by_cases hr : G &&& 475136#64 = 0#64
  · rw [if_pos hr]
    rcases bit64 G with e | e
    · exact e
    · rw [hr, e] at h3; cases h3
  · rw [if_neg hr]
    rcases bit64 G with e | e
    · rw [e, beq_eq_false_iff_ne.2 hr] at h3; cases h3
    · exact e

/-- Flags that come down go up. -/
theorem back_down {G : BitVec 64} {m : Int} (c : Bool) (h : downO G m = none) : upO (downF G m c) = none ∧ upF (downF G m c) = G ∧ rightSixB (downF G m c) = true ∧ prioI (downF G m c) = m ∧ custB (downF G m c) = c := by
  obtain ⟨h1, h2, h3⟩ := down_parts h
  have hr : rightSixB (downF G m c) = true := by
    unfold rightSixB
    rw [down_only h2, down_prio h2]
    unfold withinB at h2
    simp at h2
    simp [h2.2]
  refine ⟨badG3.2 ⟨hr, by rw [down_accepted h2]; rfl, by rw [down_single h2]; rfl⟩, ?_, hr, down_prio h2 c, ?_⟩
  · unfold upF
    rw [down_rep h2, down_both h2]
    have e := only_keep h1
    have e2 : G &&& 475239#64 = (G &&& 475175#64) ||| (G &&& 64#64) := by rw [← BitVec.and_or_distrib_left]; rfl
    rw [e2, h3] at e
    split
    · rename_i hz
      rw [if_pos hz, or_zero'] at e
      exact e
    · rename_i hz
      rw [if_neg hz] at e
      exact e
  · unfold custB
    rw [down_cust h2]
    cases c <;> rfl

/-- What goes up has no flag more, but Timed, and that just with a report. -/
theorem up_same (X : BitVec 64) : (upF X &&& ~~~64#64) &&& ~~~X = 0#64 ∧ upF X &&& ~~~127#64 = X &&& 475136#64 := by
  unfold upF
  split
  · rename_i h
    constructor
    · rw [BitVec.and_assoc, BitVec.and_assoc, BitVec.and_comm (~~~64#64), ← BitVec.and_assoc 475175#64, BitVec.and_comm 475175#64, ← BitVec.and_assoc, ← BitVec.and_assoc, BitVec.and_not_self]
      simp
    · rw [BitVec.and_assoc]; rfl
  · constructor
    · rw [BitVec.and_or_distrib_right, BitVec.and_or_distrib_right]
      show _ ||| (0#64 &&& _) = _
      rw [BitVec.and_assoc, BitVec.and_assoc, BitVec.and_comm (~~~64#64), ← BitVec.and_assoc 475175#64, BitVec.and_comm 475175#64, ← BitVec.and_assoc, ← BitVec.and_assoc, BitVec.and_not_self]
      simp
    · rw [BitVec.and_or_distrib_right, BitVec.and_assoc]
      show (X &&& 475136#64) ||| 0#64 = _
      rw [or_zero']
/-- What comes down has all of it, but Timed. -/
theorem down_same {G : BitVec 64} {m : Int} (c : Bool) (h : downO G m = none) : (G &&& ~~~64#64) &&& ~~~(downF G m c) = 0#64 := by
  obtain ⟨h1, h2, h3⟩ := down_parts h
  have e := only_keep h1
  have e2 : G &&& ~~~64#64 = G &&& 475175#64 := by
    have : G &&& ~~~64#64 = (G &&& 475239#64) &&& ~~~64#64 := by rw [e]
    rw [this, BitVec.and_assoc]; rfl
  rw [e2, ← down_both h2 c, BitVec.and_assoc, BitVec.and_comm 475175#64, ← BitVec.and_assoc, BitVec.and_not_self]
  simp

/-- Blocks' flags that go up come down; those that come down go up. -/
theorem mark_up {X : BitVec 64} (h : markUpO X = none) : markDownO (X &&& 23#64) = none ∧ markDownF (X &&& 23#64) (custB X) = X := by
  obtain ⟨h1, h2, h3⟩ := badG3.1 h
  have h2 := beq_iff_eq.1 h2
  have h3 := beq_iff_eq.1 h3
  constructor
  · refine badG1.2 ?_
    unfold onlyB
    rw [beq_iff_eq, BitVec.and_assoc]
    show X &&& 0#64 = _
    simp
  · have e := only_keep h1
    have e2 : X &&& 127#64 = (((X &&& 23#64) ||| (X &&& 8#64)) ||| (X &&& 32#64)) ||| (X &&& 64#64) := by
      rw [← BitVec.and_or_distrib_left, ← BitVec.and_or_distrib_left, ← BitVec.and_or_distrib_left]; rfl
    rw [e2, h2, h3, or_zero', or_zero'] at e
    unfold markDownF custB
    rw [BitVec.and_assoc]
    show (if _ then (X &&& 23#64) ||| _ else X &&& 23#64) = _
    rcases bit8 X with h8 | h8
    · rw [h8] at e ⊢
      rw [or_zero'] at e
      exact e
    · rw [h8] at e ⊢
      exact e
theorem mark_down {G : BitVec 64} (last : Bool) (h : markDownO G = none) : markUpO (markDownF G last) = none ∧ markDownF G last &&& 23#64 = G := by
  have h1 := badG1.1 h
  have e := only_keep h1
  unfold markDownF
  rw [e]
  have hm : ∀ M, G &&& M = G &&& (23#64 &&& M) := fun M => by rw [← BitVec.and_assoc, e]
  cases last with
  | false =>
    refine ⟨badG3.2 ⟨?_, ?_, ?_⟩, e⟩
    · unfold onlyB
      rw [beq_iff_eq]
      show G &&& _ = _
      rw [hm]
      show G &&& 0#64 = _
      simp
    · rw [beq_iff_eq]
      show G &&& _ = _
      rw [hm]
      show G &&& 0#64 = _
      simp
    · rw [beq_iff_eq]
      show G &&& _ = _
      rw [hm]
      show G &&& 0#64 = _
      simp
  | true =>
    refine ⟨badG3.2 ⟨?_, ?_, ?_⟩, ?_⟩
    · unfold onlyB
      rw [beq_iff_eq]
      show (G ||| 8#64) &&& _ = _
      rw [BitVec.and_or_distrib_right, hm]
      show (G &&& 0#64) ||| 0#64 = _
      simp
    · rw [beq_iff_eq]
      show (G ||| 8#64) &&& _ = _
      rw [BitVec.and_or_distrib_right, hm]
      show (G &&& 0#64) ||| 0#64 = _
      simp
    · rw [beq_iff_eq]
      show (G ||| 8#64) &&& _ = _
      rw [BitVec.and_or_distrib_right, hm]
      show (G &&& 0#64) ||| 0#64 = _
      simp
    · show (G ||| 8#64) &&& _ = _
      rw [BitVec.and_or_distrib_right, e]
      show G ||| 0#64 = _
      rw [or_zero']
end Go.Proofs.YtlddkoblicnepaaDoor
