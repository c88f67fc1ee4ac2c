/- What a call of a statement of package 13 starts from: the eight sentinels of package signs lie as the program's text lays them; and a world in which they do. -/
import Derived.Test.YtlddkoblicnepaaDoorRows
import Derived.Test.YtlddkoblicnepaaDoorGBase
import Derived.ProofKit
import Derived.LaidMore
import Derived.OpenShut
import Derived.Stop.Joined
import Derived.Stop.LaidTwo
set_option linter.unusedVariables false
set_option linter.unusedSimpArgs false
namespace Go.Proofs.YtlddkoblicnepaaDoor
open Go.ChangeShapes Go.WideShapes Go.ChangeAt Go.WideMaps Go.WideElems Go.RowKit

/-- Some of the laid variables, in their order. -/
theorem vars_sub {P : Program} {W : World} {L' L : List (String × DataW Unit)} (hs : L'.Sublist L) : ∀ ps, DataW.LaidVars P W L ps → ∃ qs, DataW.LaidVars P W L' qs ∧ qs.Sublist ps := by
  induction hs with
  | slnil => exact fun ps h => ⟨ps, h, List.Sublist.refl _⟩
  | @cons l1 l2 a s ih =>
    intro ps h
    obtain ⟨n, d⟩ := a
    obtain ⟨g, t, cs, fuel, p, q, a1, a2, a3, a4, hq, rfl⟩ := h
    obtain ⟨qs, h1, h2⟩ := ih q hq
    exact ⟨qs, h1, h2.trans (List.sublist_append_right _ _)⟩
  | @cons_cons l1 l2 a s ih =>
    intro ps h
    obtain ⟨n, d⟩ := a
    obtain ⟨g, t, cs, fuel, p, q, a1, a2, a3, a4, hq, rfl⟩ := h
    obtain ⟨qs, h1, h2⟩ := ih q hq
    exact ⟨_, ⟨g, t, cs, fuel, p, qs, a1, a2, a3, a4, h1, rfl⟩, List.Sublist.append (List.Sublist.refl _) h2⟩
theorem laid_sub {P : Program} {W : World} {L' L : List (String × DataW Unit)} (hs : L'.Sublist L) (h : laidMet P L W) : laidMet P L' W := by
  obtain ⟨ps, hv, hnd, hrows⟩ := h
  obtain ⟨qs, h1, h2⟩ := vars_sub hs ps hv
  exact ⟨qs, h1, List.Nodup.sublist h2 hnd, fun b off hm => hrows b off (h2.subset hm)⟩
theorem sublist_pair {α : Type} {l : List α} {i j : Nat} (h : i < j) {x y : α} (hx : l[i]? = some x) (hy : l[j]? = some y) : [x, y].Sublist l := by
  obtain ⟨hi, hx⟩ := List.getElem?_eq_some_iff.1 hx
  have e : l.take i ++ x :: l.drop (i + 1) = l := by rw [← hx, List.getElem_cons_drop, List.take_append_drop]
  have e' : (l.take i ++ x :: l.drop (i + 1)).Sublist l := Eq.mp (congrArg (fun z => (l.take i ++ x :: l.drop (i + 1)).Sublist z) e) (List.Sublist.refl _)
  refine List.Sublist.trans ?_ e'
  refine (List.Sublist.cons_cons _ (List.singleton_sublist.2 ?_)).trans (List.sublist_append_right _ _)
  refine List.mem_of_getElem? (i := j - (i + 1)) ?_
  rw [List.getElem?_drop, ← hy]
  congr 1
  omega

section
variable {P : Program} {nm : String} {W : World} {ti tp te ts : TypeId} {ms : Array (String × TypeId)} {f : Field}
/-- Two sentinels at the list's head: two pointers, not the same, each over a row of cells without a frozen range. -/
theorem laid_pair {n0 n1 : String} {x0 x1 : List UInt8} {r : List (String × DataW Unit)} {g0 g1 : Nat} (h : laidMet P ((n0, .iface nm (.ptr (.agg [.lit (.string x0)]))) :: (n1, .iface nm (.ptr (.agg [.lit (.string x1)]))) :: r) W)
    (hg0 : P.globalNamed n0 = some g0) (ht0 : (P.globals[g0]?).map (·.type) = some ti) (hg1 : P.globalNamed n1 = some g1) (ht1 : (P.globals[g1]?).map (·.type) = some ti)
    (hi : P.underlying ti = some (.interface ms)) (hrow : ∀ u, P.typeName? 3 u = some nm → u = tp)
    (hp : P.underlying tp = some (.pointer te)) (he : P.underlying te = some (.struct #[f])) (hft : f.type = ts) (hfo : f.offset = 0) (hs : P.underlying ts = some .string) (hc : P.cellsOf te = 1) (hcs : P.cellsOf ts = 1) :
    ∃ a0 a1 : Addr, W.cell? ⟨g0, 0, none⟩ = some (.iface tp (.pointer (some a0))) ∧ W.cell? ⟨g1, 0, none⟩ = some (.iface tp (.pointer (some a1))) ∧
      (∃ c t, W.heap[a0.block]? = some (.cells c t (0, 0))) ∧ (∃ c t, W.heap[a1.block]? = some (.cells c t (0, 0))) ∧ a0 ≠ a1 := by
  obtain ⟨a0, a1, _, _, c0, c1, t0, t1, hv0, hv1, _, _, _, _, _, _, hne, hb0, hb1⟩ := laid_sentinels2 h hg0 ht0 hg1 ht1 hi hrow hp he hft hfo hs hc hcs
  exact ⟨a0, a1, by simpa using World.var?_cell hg0 hv0 0, by simpa using World.var?_cell hg1 hv1 0, ⟨c0, t0, hb0⟩, ⟨c1, t1, hb1⟩, hne⟩

/-- A sentinel: its name, its place among the variables, its text. -/
structure Sent where
  name : String
  g : Nat
  text : List UInt8
def Sent.laid (nm : String) (s : Sent) : String × DataW Unit := (s.name, .iface nm (.ptr (.agg [.lit (.string s.text)])))
/-- The pointer that lies in a variable. -/
def addrIn (W : World) (g : Nat) : Addr := match W.cell? ⟨g, 0, none⟩ with
  | some (.iface _ (.pointer (some a))) => a
  | _ => ⟨0, 0, none⟩
theorem addrIn_of {t : TypeId} {a : Addr} {g : Nat} (h : W.cell? ⟨g, 0, none⟩ = some (.iface t (.pointer (some a)))) : addrIn W g = a := by
  unfold addrIn
  rw [h]

/-- All sentinels of a list of laid variables, two or more: a pointer each, no two the same, each over a row of cells without a frozen range. -/
theorem laid_sents {L : List (String × DataW Unit)} {S : List Sent} (h : laidMet P L W) (hsub : (S.map (Sent.laid nm)).Sublist L) (h2 : 2 ≤ S.length) (hg : ∀ s ∈ S, P.globalNamed s.name = some s.g ∧ (P.globals[s.g]?).map (·.type) = some ti)
    (hi : P.underlying ti = some (.interface ms)) (hrow : ∀ u, P.typeName? 3 u = some nm → u = tp)
    (hp : P.underlying tp = some (.pointer te)) (he : P.underlying te = some (.struct #[f])) (hft : f.type = ts) (hfo : f.offset = 0) (hs : P.underlying ts = some .string) (hc : P.cellsOf te = 1) (hcs : P.cellsOf ts = 1) :
    (∀ (i : Nat) (s : Sent), S[i]? = some s → W.cell? ⟨s.g, 0, none⟩ = some (.iface tp (.pointer (some (addrIn W s.g)))) ∧ ∃ c t, W.heap[(addrIn W s.g).block]? = some (.cells c t (0, 0))) ∧
    ∀ (i j : Nat) (s t : Sent), S[i]? = some s → S[j]? = some t → i ≠ j → addrIn W s.g ≠ addrIn W t.g := by
  have h := laid_sub hsub h
  have pair : ∀ (i j : Nat) (s t : Sent), S[i]? = some s → S[j]? = some t → i < j → (W.cell? ⟨s.g, 0, none⟩ = some (.iface tp (.pointer (some (addrIn W s.g)))) ∧ ∃ c t, W.heap[(addrIn W s.g).block]? = some (.cells c t (0, 0))) ∧ (W.cell? ⟨t.g, 0, none⟩ = some (.iface tp (.pointer (some (addrIn W t.g)))) ∧ ∃ c y, W.heap[(addrIn W t.g).block]? = some (.cells c y (0, 0))) ∧ addrIn W s.g ≠ addrIn W t.g := by
    intro i j s t es et hij
    have hl := laid_sub (sublist_pair hij (l := S.map (Sent.laid nm)) (by rw [List.getElem?_map, es]; rfl) (by rw [List.getElem?_map, et]; rfl)) h
    obtain ⟨g1, t1⟩ := hg s (List.mem_of_getElem? es)
    obtain ⟨g2, t2⟩ := hg t (List.mem_of_getElem? et)
    obtain ⟨a0, a1, c0, c1, k0, k1, hne⟩ := laid_pair (r := []) hl g1 t1 g2 t2 hi hrow hp he hft hfo hs hc hcs
    rw [addrIn_of c0, addrIn_of c1]
    exact ⟨⟨c0, k0⟩, ⟨c1, k1⟩, hne⟩
  constructor
  · intro i s es
    have hl := (List.getElem?_eq_some_iff.1 es).1
    by_cases h0 : i = 0
    · subst h0
      exact (pair 0 1 s S[1] es (List.getElem?_eq_getElem (by omega)) (by omega)).1
    · exact (pair 0 i S[0] s (List.getElem?_eq_getElem (by omega)) es (by omega)).2.1
  · intro i j s t es et hij
    rcases Nat.lt_or_gt_of_ne hij with h1 | h1
    · exact (pair i j s t es et h1).2.2
    · exact (pair j i t s et es h1).2.2.symm
end

theorem own : ownKnob Tryd.prog.godebug = none := by kernel_rfl
theorem cellsErr : Tryd.prog.cellsOf 115 = 1 := by kernel_rfl
theorem cellsStr : Tryd.prog.cellsOf 9 = 1 := by kernel_rfl
theorem star : "*" ++ "errors.errorString" = "*errors.errorString" := by decide
theorem rowErr (u : TypeId) (h : Tryd.prog.typeName? 3 u = some "*errors.errorString") : u = 89 :=
  typeName_ptr_named (nm := "errors.errorString") (by rw [star]; kernel_rfl) (by kernel_rfl) (by decide) u (by rw [star]; exact h)

/-- What the rows list. -/
def laid8 : List (String × DataW Unit) := [("postrider/signs.errArg", Rows.laid_postrider_signs_errArg), ("postrider/signs.errNum", Rows.laid_postrider_signs_errNum), ("postrider/signs.errAccepted", Rows.laid_postrider_signs_errAccepted), ("postrider/signs.errSingle", Rows.laid_postrider_signs_errSingle), ("postrider/signs.errTimed", Rows.laid_postrider_signs_errTimed), ("postrider/signs.errPassed", Rows.laid_postrider_signs_errPassed), ("postrider/signs.errNamed", Rows.laid_postrider_signs_errNamed), ("postrider/signs.errTime", Rows.laid_postrider_signs_errTime)]
theorem door_met (os : Os) (args : Array Value) : laidMetH Tryd.prog laid8 ((World.doorLaid Tryd.prog 400 os).forCall (fun _ _ => 0) ⟨#[], args, []⟩).memory :=
  laidMet_of_run' 8 (by kernel_rfl) (by kernel_rfl)

/-- The eight sentinels, in the rows' order. -/
def sents8 : List Sent := [⟨"postrider/signs.errArg", 2, [115, 105, 103, 110, 115, 58, 32, 110, 111, 32, 115, 117, 99, 104, 32, 102, 108, 97, 103, 115, 44, 32, 111, 114, 32, 110, 111, 32, 115, 117, 99, 104, 32, 112, 114, 105, 111, 114, 105, 116, 121]⟩, ⟨"postrider/signs.errNum", 0, [115, 105, 103, 110, 115, 58, 32, 110, 111, 32, 110, 117, 109, 98, 101, 114, 44, 32, 111, 114, 32, 116, 111, 111, 32, 103, 114, 101, 97, 116, 32, 97, 32, 111, 110, 101]⟩, ⟨"postrider/signs.errAccepted", 3, [115, 105, 103, 110, 115, 58, 32, 118, 101, 114, 115, 105, 111, 110, 32, 55, 32, 104, 97, 115, 32, 110, 111, 32, 114, 101, 112, 111, 114, 116, 32, 111, 102, 32, 119, 104, 97, 116, 32, 119, 97, 115, 32, 97, 99, 99, 101, 112, 116, 101, 100]⟩, ⟨"postrider/signs.errSingle", 4, [115, 105, 103, 110, 115, 58, 32, 118, 101, 114, 115, 105, 111, 110, 32, 55, 32, 104, 97, 115, 32, 110, 111, 32, 98, 117, 110, 100, 108, 101, 32, 116, 111, 32, 109, 111, 114, 101, 32, 116, 104, 97, 110, 32, 97, 32, 115, 105, 110, 103, 108, 101, 32, 101, 110, 100, 112, 111, 105, 110, 116]⟩, ⟨"postrider/signs.errTimed", 5, [115, 105, 103, 110, 115, 58, 32, 118, 101, 114, 115, 105, 111, 110, 32, 54, 32, 104, 97, 115, 32, 116, 105, 109, 101, 115, 32, 105, 110, 32, 97, 108, 108, 32, 114, 101, 112, 111, 114, 116, 115, 44, 32, 97, 110, 100, 32, 110, 111, 119, 104, 101, 114, 101, 32, 101, 108, 115, 101]⟩, ⟨"postrider/signs.errPassed", 6, [115, 105, 103, 110, 115, 58, 32, 118, 101, 114, 115, 105, 111, 110, 32, 55, 32, 104, 97, 115, 32, 110, 111, 32, 102, 108, 97, 103, 32, 111, 102, 32, 97, 32, 98, 108, 111, 99, 107, 32, 116, 104, 97, 116, 32, 119, 97, 115, 32, 112, 97, 115, 115, 101, 100, 32, 111, 110]⟩, ⟨"postrider/signs.errNamed", 7, [115, 105, 103, 110, 115, 58, 32, 118, 101, 114, 115, 105, 111, 110, 32, 55, 32, 104, 97, 115, 32, 110, 111, 32, 98, 108, 111, 99, 107, 32, 116, 104, 97, 116, 32, 114, 101, 102, 101, 114, 115, 32, 116, 111, 32, 110, 97, 109, 101, 115]⟩, ⟨"postrider/signs.errTime", 1, [115, 105, 103, 110, 115, 58, 32, 118, 101, 114, 115, 105, 111, 110, 32, 54, 32, 104, 97, 115, 32, 110, 111, 32, 112, 97, 114, 116, 115, 32, 111, 102, 32, 115, 101, 99, 111, 110, 100, 115]⟩]
theorem sents8_laid : sents8.map (Sent.laid "*errors.errorString") = laid8 := rfl
theorem sents8_named : ∀ s ∈ sents8, Tryd.prog.globalNamed s.name = some s.g ∧ (Tryd.prog.globals[s.g]?).map (·.type) = some 34 := by
  intro s hs
  unfold sents8 at hs
  simp only [List.mem_cons, List.not_mem_nil, or_false] at hs
  rcases hs with rfl | rfl | rfl | rfl | rfl | rfl | rfl | rfl
  · exact ⟨by kernel_rfl, by kernel_rfl⟩
  · exact ⟨by kernel_rfl, by kernel_rfl⟩
  · exact ⟨by kernel_rfl, by kernel_rfl⟩
  · exact ⟨by kernel_rfl, by kernel_rfl⟩
  · exact ⟨by kernel_rfl, by kernel_rfl⟩
  · exact ⟨by kernel_rfl, by kernel_rfl⟩
  · exact ⟨by kernel_rfl, by kernel_rfl⟩
  · exact ⟨by kernel_rfl, by kernel_rfl⟩
theorem env_of_laid {W : World} (h : laidMetH Tryd.prog laid8 W) : ∃ b, EnvG b W := by
  have h1 : laidMet Tryd.prog laid8 W := h
  obtain ⟨hc, hn⟩ := laid_sents h1 (S := sents8) (by rw [sents8_laid]; exact List.Sublist.refl _) (by decide) sents8_named Tryd.underlying34 rowErr Tryd.underlying89 Tryd.underlying115 rfl rfl Tryd.underlying9 cellsErr cellsStr
  have hg : ∀ i, i < 8 → ∃ s, sents8[(i + 1) % 8]? = some s ∧ addrIn W s.g = addrIn W (sents8[(i + 1) % 8]?.getD ⟨"", 0, []⟩).g := fun i hi => by
    have hl : (i + 1) % 8 < sents8.length := Nat.mod_lt _ (by decide)
    exact ⟨sents8[(i + 1) % 8], List.getElem?_eq_getElem hl, by rw [List.getElem?_eq_getElem hl]; rfl⟩
  refine ⟨fun i => addrIn W (sents8[(i + 1) % 8]?.getD ⟨"", 0, []⟩).g, (hc 1 _ rfl).1, (hc 2 _ rfl).1, (hc 3 _ rfl).1, (hc 4 _ rfl).1, (hc 5 _ rfl).1, (hc 6 _ rfl).1, (hc 7 _ rfl).1, (hc 0 _ rfl).1, fun i hi => ?_, fun i j hi hj hij => ?_⟩
  · obtain ⟨s, es, ea⟩ := hg i hi
    show ∃ c t, W.heap[(addrIn W (sents8[(i + 1) % 8]?.getD ⟨"", 0, []⟩).g).block]? = _
    rw [← ea]
    exact (hc _ s es).2
  · obtain ⟨s, es, ea⟩ := hg i hi
    obtain ⟨t, et, eb⟩ := hg j hj
    show addrIn W (sents8[(i + 1) % 8]?.getD ⟨"", 0, []⟩).g ≠ addrIn W (sents8[(j + 1) % 8]?.getD ⟨"", 0, []⟩).g
    rw [← ea, ← eb]
    exact hn _ _ s t es et (by omega)
end Go.Proofs.YtlddkoblicnepaaDoor
