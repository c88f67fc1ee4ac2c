/- A region that draws its order: operations whose guard is known to be false are passed over. -/
import Derived.Test.YtdlkmdjhjdpmeaaGreatDoorChecked
import Derived.WalkKit
import Derived.Deep.RegionHeld3
set_option linter.unusedVariables false
set_option linter.unusedSimpArgs false
namespace Go.Proofs.YtdlkmdjhjdpmeaaGreatDoor
open Go.RowKit

theorem skip_of {ops : Array Oper} {tmps : Array Value} {o : Oper} {k d : Nat} {b : Bool} (hg : o.guard = some (k, !b)) (hd : (ops[k]?).bind (·.dst) = some d) (ht : tmps[d]? = some (.bool b)) : Region.wanted o (yielded ops tmps) = false := by
  have hy : yielded ops tmps k = some b := by
    unfold yielded
    rw [hd]
    simp [ht]
  unfold Region.wanted
  rw [hg]
  cases b <;> simp [hy]

/-- An operation that is passed over leaves all as it was. -/
theorem take_skip {P : Program} {md : Region.Mode} {ops : Array Oper} {Q : Exit → Act → World → Prop} {S : World → Prop} {fuel : Nat} {listed : Array Bool} {tmps : Array Value} {ds : List Deferred} {w : World} (i : Nat) {oi : Oper} {k d d' : Nat} {b : Bool}
    (hs : Region.noSelect ops = true) (hf : Region.free md ops listed i = true) (hr : (Region.ready md ops listed).contains i = true) (hi : ops[i]? = some oi)
    (hg : oi.guard = some (k, !b)) (hd : (ops[k]?).bind (·.dst) = some d) (ht : tmps[d]? = some (.bool b)) (ho : oi.dst = some d') (hu : tmps[d']? = some undef)
    (hQ : ∀ c a w, Q (.panic c) (a.put oi.dst undef) w → Q (.panic c) a w) (hS : S w) (h : wpAnyH P md ops Q S fuel (listed.setIfInBounds i true) { tmps := tmps, defers := ds } w) : wpAnyH P md ops Q S (fuel + 1) listed { tmps := tmps, defers := ds } w := by
  refine wpAnyH_take (v := undef) hi hs hf hr hQ (Or.inr ⟨skip_of hg hd ht, rfl⟩) hS ?_
  have e : Act.put { tmps := tmps, defers := ds } oi.dst undef = { tmps := tmps, defers := ds } := by
    rw [ho]
    simp only [Act.put]
    congr 1
    apply Array.ext_getElem?
    intro j
    rw [Array.getElem?_setIfInBounds]
    split
    · rename_i hj
      subst hj
      rw [hu]
      have : d' < tmps.size := by
        rcases Nat.lt_or_ge d' tmps.size with h' | h'
        · exact h'
        · rw [Array.getElem?_eq_none h'] at hu; cases hu
      rw [if_pos this]
    · rfl
  rw [e]
  exact h
end Go.Proofs.YtdlkmdjhjdpmeaaGreatDoor
