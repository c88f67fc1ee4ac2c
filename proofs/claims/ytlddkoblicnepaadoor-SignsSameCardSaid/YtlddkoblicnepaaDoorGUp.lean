/- Contracts of package signs: priority, rightSix, within; up, markUp, markDown, down: what they answer, as if nothing were wrong, and what is wrong. -/
import Derived.Test.YtlddkoblicnepaaDoorGEach
import Derived.Deep.RegionHeld3
set_option linter.unusedVariables false
set_option linter.unusedSimpArgs false
namespace Go.Proofs.YtlddkoblicnepaaDoor
open Go.RowKit Go.Extern.Stop Go.Stop Go.Extern

theorem urg_bits : ∀ j : Fin 64, j.val ≠ 7 → j.val ≠ 8 → (384#64).getLsbD j.val = false := by decide
/-- The bits of Priority: none, one, two or three times. -/
theorem urg_cases (X : BitVec 64) : X &&& 384#64 = 0#64 ∨ X &&& 384#64 = 128#64 ∨ X &&& 384#64 = 256#64 ∨ X &&& 384#64 = 384#64 := by
  have key : ∀ Y : BitVec 64, Y.getLsbD 7 = X.getLsbD 7 → Y.getLsbD 8 = X.getLsbD 8 → (Y &&& 384#64) = Y → X &&& 384#64 = Y := fun Y h7 h8 hY => by
    apply BitVec.eq_of_getLsbD_eq
    intro j hj
    rw [← hY, BitVec.getLsbD_and, BitVec.getLsbD_and]
    by_cases e7 : j = 7
    · subst e7; rw [h7]
    · by_cases e8 : j = 8
      · subst e8; rw [h8]
      · rw [urg_bits ⟨j, hj⟩ e7 e8]; simp
  cases h7 : X.getLsbD 7 <;> cases h8 : X.getLsbD 8
  · exact .inl (key 0#64 (by rw [h7]; decide) (by rw [h8]; decide) (by decide))
  · exact .inr (.inr (.inl (key 256#64 (by rw [h7]; decide) (by rw [h8]; decide) (by decide))))
  · exact .inr (.inl (key 128#64 (by rw [h7]; decide) (by rw [h8]; decide) (by decide)))
  · exact .inr (.inr (.inr (key 384#64 (by rw [h7]; decide) (by rw [h8]; decide) (by decide))))

/-- How many times Priority is among them. -/
def prioI (X : BitVec 64) : Int := tI (X &&& 384#64) / 128
theorem prio_cases (X : BitVec 64) : (X &&& 384#64 = 0#64 ∧ prioI X = 0) ∨ (X &&& 384#64 = 128#64 ∧ prioI X = 1) ∨ (X &&& 384#64 = 256#64 ∧ prioI X = 2) ∨ (X &&& 384#64 = 384#64 ∧ prioI X = 3) := by
  unfold prioI
  rcases urg_cases X with h | h | h | h <;> rw [h]
  · exact .inl ⟨rfl, by decide⟩
  · exact .inr (.inl ⟨rfl, by decide⟩)
  · exact .inr (.inr (.inl ⟨rfl, by decide⟩))
  · exact .inr (.inr (.inr ⟨rfl, by decide⟩))
def rightSixB (X : BitVec 64) : Bool := onlyB X 508351#64 && decide (prioI X ≤ 2)

set_option maxHeartbeats 400000 in
theorem priority_any (X : BitVec 64) (w : World) :
    Calls Tryd.prog 43 #[.agg #[.int .i64 (tI X)]] w fun e w' => e = .returned (.int .i64 (prioI X)) ∧ Below w.heap.size w w' := by
  have hc : (tI (X &&& 384#64) = 0 ∧ prioI X = 0) ∨ (tI (X &&& 384#64) = 128 ∧ prioI X = 1) ∨ (tI (X &&& 384#64) = 256 ∧ prioI X = 2) ∨ (tI (X &&& 384#64) = 384 ∧ prioI X = 3) := by
    rcases prio_cases X with ⟨h, h'⟩ | ⟨h, h'⟩ | ⟨h, h'⟩ | ⟨h, h'⟩ <;> rw [h, h']
    · exact .inl ⟨rfl, rfl⟩
    · exact .inr (.inl ⟨rfl, rfl⟩)
    · exact .inr (.inr (.inl ⟨rfl, rfl⟩))
    · exact .inr (.inr (.inr ⟨rfl, rfl⟩))
  have hpart := partb_any X 384#64
  rcases hc with ⟨h, h'⟩ | ⟨h, h'⟩ | ⟨h, h'⟩ | ⟨h, h'⟩
  all_goals
    rw [h']
    rw [h] at hpart
    go_enter Tryd.func43, Tryd.ntmps43
    go_wp2_with fail
    refine (hpart _).mono ?_
    rintro e w1 ⟨rfl, hb1⟩
    go_wp2
    go_ret
    exact ⟨rfl, (((Below.refl _ _).alloc (Nat.le_refl _) _)).trans (hb1.mono (by simp))⟩

set_option maxHeartbeats 400000 in
theorem rightSix_any (X : BitVec 64) (w : World) :
    Calls Tryd.prog 41 #[.agg #[.int .i64 (tI X)]] w fun e w' => e = .returned (.bool (rightSixB X)) ∧ Below w.heap.size w w' := by
  unfold rightSixB
  have honly := onlyb_any X 508351#64
  have hprio := priority_any X
  generalize onlyB X 508351#64 = p at *
  generalize prioI X = n at *
  have hb0 := (Below.refl w.heap.size w).alloc (Nat.le_refl _) (.cells #[.int .i64 (tI X)] 39)
  have c0 : (w.alloc (.cells #[.int .i64 (tI X)] 39)).cell? ⟨w.heap.size, 0, none⟩ = some (.int .i64 (tI X)) := by go_simp
  have hz : w.heap.size < (w.alloc (.cells #[.int .i64 (tI X)] 39)).heap.size := by simp
  generalize tI X = x at *
  cases p with
  | false =>
    go_enter Tryd.func41, Tryd.ntmps41
    go_wp2_with fail
    refine (honly _).mono ?_
    rintro e w1 ⟨rfl, hb1⟩
    go_wp2
    go_ret
    exact ⟨rfl, hb0.trans (hb1.mono (by simp))⟩
  | true =>
    go_enter Tryd.func41, Tryd.ntmps41
    go_wp2_with fail
    refine (honly _).mono ?_
    rintro e w1 ⟨rfl, hb1⟩
    have c1 := (hb1.cell (p := ⟨w.heap.size, 0, none⟩) hz).trans c0
    have hb01 := hb0.trans (hb1.mono (by simp))
    clear c0 hb0 hb1 hz
    go_wp2_with fail
    refine (hprio _).mono ?_
    rintro e w2 ⟨rfl, hb2⟩
    go_wp2
    go_ret
    exact ⟨by simp, hb01.trans (hb2.mono hb01.size)⟩

def withinB (n l m : Int) : Bool := decide (l ≤ n) && decide (n ≤ m)
set_option maxHeartbeats 400000 in
theorem within_any (n l m : Int) (w : World) :
    Calls Tryd.prog 36 #[.int .i64 n, .int .i64 l, .int .i64 m] w fun e w' => e = .returned (.bool (withinB n l m)) ∧ w = w' := by
  unfold withinB
  by_cases h0 : l ≤ n
  · have h0' : decide (l ≤ n) = true := by simpa using h0
    go_enter Tryd.func36, Tryd.ntmps36
    go_wp2
    go_ret
    exact ⟨by simp [h0], rfl⟩
  · have h0' : decide (l ≤ n) = false := by simpa using h0
    go_enter Tryd.func36, Tryd.ntmps36
    go_wp2
    go_ret
    exact ⟨by simp [h0], rfl⟩

/-- What a region has made so far: rules. -/
structure CumG (w0 : World) (l : List (Value × Bool × Addr)) (W : World) : Prop where
  b : Below w0.heap.size w0 W
  r : ∀ x ∈ l, RuleAt W x.1 x.2.1 x.2.2
theorem CumG.nil {w0 W : World} (h : Below w0.heap.size w0 W) : CumG w0 [] W := ⟨h, fun x hx => by cases hx⟩
theorem CumG.below {w0 W W' : World} {l : List (Value × Bool × Addr)} (h : CumG w0 l W) (hb : Below W.heap.size W W') : CumG w0 l W' :=
  ⟨h.b.trans (hb.mono h.b.size), fun x hx => (h.r x hx).below hb⟩
theorem CumG.snoc {w0 W W' : World} {l : List (Value × Bool × Addr)} {v : Value} {p : Bool} {a : Addr} (h : CumG w0 l W) (hr : RuleAt W' v p a) (hb : Below W.heap.size W W') : CumG w0 (l ++ [(v, p, a)]) W' :=
  ⟨h.b.trans (hb.mono h.b.size), fun x hx => by
    rcases List.mem_append.1 hx with hx | hx
    · exact (h.r x hx).below hb
    · obtain rfl := List.mem_singleton.1 hx; exact hr⟩
/-- Rules in a slice. -/
theorem CumG.rules {w0 W : World} {l : List (Value × Bool × Addr)} (h : CumG w0 l W) (t : TypeId) : RulesG (W.alloc (.cells (l.map (·.1)).toArray t)) W.heap.size (l.map (·.2)) := by
  intro j r hj
  rw [List.getElem?_map] at hj
  obtain ⟨x, hx, rfl⟩ := Option.map_eq_some_iff.1 hj
  refine ⟨x.1, ?_, (h.r x (List.mem_of_getElem? hx)).below ((Below.refl _ _).alloc (Nat.le_refl _) _)⟩
  have : (l.map (·.1)).toArray[j]? = some x.1 := by rw [List.getElem?_toArray, List.getElem?_map, hx]; rfl
  have hh := heap_alloc_new W (.cells (l.map (·.1)).toArray t)
  unfold World.cell?
  rw [hh]
  simpa using this
end Go.Proofs.YtlddkoblicnepaaDoor
