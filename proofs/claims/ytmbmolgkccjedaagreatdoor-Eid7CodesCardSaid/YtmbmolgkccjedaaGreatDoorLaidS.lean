/- Sentinels among the laid variables: any list of them at once. -/
import Derived.ProofKit
import Derived.LaidMore
import Derived.OpenShut
import Derived.Stop.Joined
import Derived.Stop.LaidTwo
set_option linter.unusedVariables false
set_option linter.unusedSimpArgs false
namespace Go.Proofs.YtmbmolgkccjedaaGreatDoor
open Go.ChangeShapes Go.WideShapes Go.ChangeAt Go.WideMaps Go.WideElems Go.RowKit

/-- Some of the laid variables, in their order. -/
theorem vars_sub {P : Program} {W : World} {L' L : List (String × DataW Unit)} (hs : L'.Sublist L) : ∀ ps, DataW.LaidVars P W L ps → ∃ qs, DataW.LaidVars P W L' qs ∧ qs.Sublist ps := by
  induction hs with
  | slnil => exact fun ps h => ⟨ps, h, List.Sublist.refl _⟩
  | @cons l1 l2 a s ih =>
    intro ps h
    obtain ⟨n, d⟩ := a
    obtain ⟨g, t, cs, fuel, p, q, a1, a2, a3, a4, hq, rfl⟩ := h
    obtain ⟨qs, h1, h2⟩ := ih q hq
    exact ⟨qs, h1, h2.trans (List.sublist_append_right _ _)⟩
  | @cons_cons l1 l2 a s ih =>
    intro ps h
    obtain ⟨n, d⟩ := a
    obtain ⟨g, t, cs, fuel, p, q, a1, a2, a3, a4, hq, rfl⟩ := h
    obtain ⟨qs, h1, h2⟩ := ih q hq
    exact ⟨_, ⟨g, t, cs, fuel, p, qs, a1, a2, a3, a4, h1, rfl⟩, List.Sublist.append (List.Sublist.refl _) h2⟩
theorem laid_sub {P : Program} {W : World} {L' L : List (String × DataW Unit)} (hs : L'.Sublist L) (h : laidMet P L W) : laidMet P L' W := by
  obtain ⟨ps, hv, hnd, hrows⟩ := h
  obtain ⟨qs, h1, h2⟩ := vars_sub hs ps hv
  exact ⟨qs, h1, List.Nodup.sublist h2 hnd, fun b off hm => hrows b off (h2.subset hm)⟩
theorem sublist_pair {α : Type} {l : List α} {i j : Nat} (h : i < j) {x y : α} (hx : l[i]? = some x) (hy : l[j]? = some y) : [x, y].Sublist l := by
  obtain ⟨hi, hx⟩ := List.getElem?_eq_some_iff.1 hx
  have e : l.take i ++ x :: l.drop (i + 1) = l := by rw [← hx, List.getElem_cons_drop, List.take_append_drop]
  have e' : (l.take i ++ x :: l.drop (i + 1)).Sublist l := Eq.mp (congrArg (fun z => (l.take i ++ x :: l.drop (i + 1)).Sublist z) e) (List.Sublist.refl _)
  refine List.Sublist.trans ?_ e'
  refine (List.Sublist.cons_cons _ (List.singleton_sublist.2 ?_)).trans (List.sublist_append_right _ _)
  refine List.mem_of_getElem? (i := j - (i + 1)) ?_
  rw [List.getElem?_drop, ← hy]
  congr 1
  omega

section
variable {P : Program} {nm : String} {W : World} {ti tp te ts : TypeId} {ms : Array (String × TypeId)} {f : Field}
/-- Two sentinels at the list's head: two pointers, not the same, each over a row of cells without a frozen range. -/
theorem laid_pair {n0 n1 : String} {x0 x1 : List UInt8} {r : List (String × DataW Unit)} {g0 g1 : Nat} (h : laidMet P ((n0, .iface nm (.ptr (.agg [.lit (.string x0)]))) :: (n1, .iface nm (.ptr (.agg [.lit (.string x1)]))) :: r) W)
    (hg0 : P.globalNamed n0 = some g0) (ht0 : (P.globals[g0]?).map (·.type) = some ti) (hg1 : P.globalNamed n1 = some g1) (ht1 : (P.globals[g1]?).map (·.type) = some ti)
    (hi : P.underlying ti = some (.interface ms)) (hrow : ∀ u, P.typeName? 3 u = some nm → u = tp)
    (hp : P.underlying tp = some (.pointer te)) (he : P.underlying te = some (.struct #[f])) (hft : f.type = ts) (hfo : f.offset = 0) (hs : P.underlying ts = some .string) (hc : P.cellsOf te = 1) (hcs : P.cellsOf ts = 1) :
    ∃ a0 a1 : Addr, W.cell? ⟨g0, 0, none⟩ = some (.iface tp (.pointer (some a0))) ∧ W.cell? ⟨g1, 0, none⟩ = some (.iface tp (.pointer (some a1))) ∧
      (∃ c t, W.heap[a0.block]? = some (.cells c t (0, 0))) ∧ (∃ c t, W.heap[a1.block]? = some (.cells c t (0, 0))) ∧ a0 ≠ a1 := by
  obtain ⟨a0, a1, _, _, c0, c1, t0, t1, hv0, hv1, _, _, _, _, _, _, hne, hb0, hb1⟩ := laid_sentinels2 h hg0 ht0 hg1 ht1 hi hrow hp he hft hfo hs hc hcs
  exact ⟨a0, a1, by simpa using World.var?_cell hg0 hv0 0, by simpa using World.var?_cell hg1 hv1 0, ⟨c0, t0, hb0⟩, ⟨c1, t1, hb1⟩, hne⟩

/-- A sentinel: its name, its place among the variables, its text. -/
structure Snt where
  name : String
  g : Nat
  text : List UInt8
def Snt.laid (nm : String) (s : Snt) : String × DataW Unit := (s.name, .iface nm (.ptr (.agg [.lit (.string s.text)])))
/-- The pointer that lies in a variable. -/
def addrIn (W : World) (g : Nat) : Addr := match W.cell? ⟨g, 0, none⟩ with
  | some (.iface _ (.pointer (some a))) => a
  | _ => ⟨0, 0, none⟩
theorem addrIn_of {t : TypeId} {a : Addr} {g : Nat} (h : W.cell? ⟨g, 0, none⟩ = some (.iface t (.pointer (some a)))) : addrIn W g = a := by
  unfold addrIn
  rw [h]

/-- All sentinels of a list of laid variables, two or more: a pointer each, no two the same, each over a row of cells without a frozen range. -/
theorem laid_sents {L : List (String × DataW Unit)} {S : List Snt} (h : laidMet P L W) (hsub : (S.map (Snt.laid nm)).Sublist L) (h2 : 2 ≤ S.length) (hg : ∀ s ∈ S, P.globalNamed s.name = some s.g ∧ (P.globals[s.g]?).map (·.type) = some ti)
    (hi : P.underlying ti = some (.interface ms)) (hrow : ∀ u, P.typeName? 3 u = some nm → u = tp)
    (hp : P.underlying tp = some (.pointer te)) (he : P.underlying te = some (.struct #[f])) (hft : f.type = ts) (hfo : f.offset = 0) (hs : P.underlying ts = some .string) (hc : P.cellsOf te = 1) (hcs : P.cellsOf ts = 1) :
    (∀ (i : Nat) (s : Snt), S[i]? = some s → W.cell? ⟨s.g, 0, none⟩ = some (.iface tp (.pointer (some (addrIn W s.g)))) ∧ ∃ c t, W.heap[(addrIn W s.g).block]? = some (.cells c t (0, 0))) ∧
    ∀ (i j : Nat) (s t : Snt), S[i]? = some s → S[j]? = some t → i ≠ j → addrIn W s.g ≠ addrIn W t.g := by
  have h := laid_sub hsub h
  have pair : ∀ (i j : Nat) (s t : Snt), S[i]? = some s → S[j]? = some t → i < j → (W.cell? ⟨s.g, 0, none⟩ = some (.iface tp (.pointer (some (addrIn W s.g)))) ∧ ∃ c t, W.heap[(addrIn W s.g).block]? = some (.cells c t (0, 0))) ∧ (W.cell? ⟨t.g, 0, none⟩ = some (.iface tp (.pointer (some (addrIn W t.g)))) ∧ ∃ c y, W.heap[(addrIn W t.g).block]? = some (.cells c y (0, 0))) ∧ addrIn W s.g ≠ addrIn W t.g := by
    intro i j s t es et hij
    have hl := laid_sub (sublist_pair hij (l := S.map (Snt.laid nm)) (by rw [List.getElem?_map, es]; rfl) (by rw [List.getElem?_map, et]; rfl)) h
    obtain ⟨g1, t1⟩ := hg s (List.mem_of_getElem? es)
    obtain ⟨g2, t2⟩ := hg t (List.mem_of_getElem? et)
    obtain ⟨a0, a1, c0, c1, k0, k1, hne⟩ := laid_pair (r := []) hl g1 t1 g2 t2 hi hrow hp he hft hfo hs hc hcs
    rw [addrIn_of c0, addrIn_of c1]
    exact ⟨⟨c0, k0⟩, ⟨c1, k1⟩, hne⟩
  constructor
  · intro i s es
    have hl := (List.getElem?_eq_some_iff.1 es).1
    by_cases h0 : i = 0
    · subst h0
      exact (pair 0 1 s S[1] es (List.getElem?_eq_getElem (by omega)) (by omega)).1
    · exact (pair 0 i S[0] s (List.getElem?_eq_getElem (by omega)) es (by omega)).2.1
  · intro i j s t es et hij
    rcases Nat.lt_or_gt_of_ne hij with h1 | h1
    · exact (pair i j s t es et h1).2.2
    · exact (pair j i t s et es h1).2.2.symm
end

/-- A sentinel's text, off what is laid. -/
def textOf : DataW Unit → List UInt8
  | .iface _ (.ptr (.agg [.lit (.string t)])) => t
  | _ => []
end Go.Proofs.YtmbmolgkccjedaaGreatDoor
