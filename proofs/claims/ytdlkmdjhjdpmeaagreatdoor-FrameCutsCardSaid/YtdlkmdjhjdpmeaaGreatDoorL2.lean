/- Sentinels among the laid variables: any list of them at once. -/
import Derived.ProofKit
import Derived.LaidMore
import Derived.OpenShut
import Derived.Stop.Joined
import Derived.Stop.LaidTwo
import Derived.Test.YtdlkmdjhjdpmeaaGreatDoorRows
import Derived.Test.YtdlkmdjhjdpmeaaGreatDoorFLaw
import Derived.Deep.Slices
import Derived.Laws.AppendOwn
set_option linter.unusedVariables false
set_option linter.unusedSimpArgs false
namespace Go.Proofs.YtdlkmdjhjdpmeaaGreatDoor
open Go.ChangeShapes Go.WideShapes Go.ChangeAt Go.WideMaps Go.WideElems Go.RowKit

/-- Some of the laid variables, in their order. -/
theorem vars_sub {P : Program} {W : World} {L' L : List (String × DataW Unit)} (hs : L'.Sublist L) : ∀ ps, DataW.LaidVars P W L ps → ∃ qs, DataW.LaidVars P W L' qs ∧ qs.Sublist ps := by
  induction hs with
  | slnil => exact fun ps h => ⟨ps, h, List.Sublist.refl _⟩
  | @cons l1 l2 a s ih =>
    intro ps h
    obtain ⟨n, d⟩ := a
    obtain ⟨g, t, cs, fuel, p, q, a1, a2, a3, a4, hq, rfl⟩ := h
    obtain ⟨qs, h1, h2⟩ := ih q hq
    exact ⟨qs, h1, h2.trans (List.sublist_append_right _ _)⟩
  | @cons_cons l1 l2 a s ih =>
    intro ps h
    obtain ⟨n, d⟩ := a
    obtain ⟨g, t, cs, fuel, p, q, a1, a2, a3, a4, hq, rfl⟩ := h
    obtain ⟨qs, h1, h2⟩ := ih q hq
    exact ⟨_, ⟨g, t, cs, fuel, p, qs, a1, a2, a3, a4, h1, rfl⟩, List.Sublist.append (List.Sublist.refl _) h2⟩
theorem laid_sub {P : Program} {W : World} {L' L : List (String × DataW Unit)} (hs : L'.Sublist L) (h : laidMet P L W) : laidMet P L' W := by
  obtain ⟨ps, hv, hnd, hrows⟩ := h
  obtain ⟨qs, h1, h2⟩ := vars_sub hs ps hv
  exact ⟨qs, h1, List.Nodup.sublist h2 hnd, fun b off hm => hrows b off (h2.subset hm)⟩
theorem sublist_pair {α : Type} {l : List α} {i j : Nat} (h : i < j) {x y : α} (hx : l[i]? = some x) (hy : l[j]? = some y) : [x, y].Sublist l := by
  obtain ⟨hi, hx⟩ := List.getElem?_eq_some_iff.1 hx
  have e : l.take i ++ x :: l.drop (i + 1) = l := by rw [← hx, List.getElem_cons_drop, List.take_append_drop]
  have e' : (l.take i ++ x :: l.drop (i + 1)).Sublist l := Eq.mp (congrArg (fun z => (l.take i ++ x :: l.drop (i + 1)).Sublist z) e) (List.Sublist.refl _)
  refine List.Sublist.trans ?_ e'
  refine (List.Sublist.cons_cons _ (List.singleton_sublist.2 ?_)).trans (List.sublist_append_right _ _)
  refine List.mem_of_getElem? (i := j - (i + 1)) ?_
  rw [List.getElem?_drop, ← hy]
  congr 1
  omega

section
variable {P : Program} {nm : String} {W : World} {ti tp te ts : TypeId} {ms : Array (String × TypeId)} {f : Field}
/-- Two sentinels at the list's head: two pointers, not the same, each over a row of cells without a frozen range. -/
theorem laid_pair {n0 n1 : String} {x0 x1 : List UInt8} {r : List (String × DataW Unit)} {g0 g1 : Nat} (h : laidMet P ((n0, .iface nm (.ptr (.agg [.lit (.string x0)]))) :: (n1, .iface nm (.ptr (.agg [.lit (.string x1)]))) :: r) W)
    (hg0 : P.globalNamed n0 = some g0) (ht0 : (P.globals[g0]?).map (·.type) = some ti) (hg1 : P.globalNamed n1 = some g1) (ht1 : (P.globals[g1]?).map (·.type) = some ti)
    (hi : P.underlying ti = some (.interface ms)) (hrow : ∀ u, P.typeName? 3 u = some nm → u = tp)
    (hp : P.underlying tp = some (.pointer te)) (he : P.underlying te = some (.struct #[f])) (hft : f.type = ts) (hfo : f.offset = 0) (hs : P.underlying ts = some .string) (hc : P.cellsOf te = 1) (hcs : P.cellsOf ts = 1) :
    ∃ a0 a1 : Addr, W.cell? ⟨g0, 0, none⟩ = some (.iface tp (.pointer (some a0))) ∧ W.cell? ⟨g1, 0, none⟩ = some (.iface tp (.pointer (some a1))) ∧
      (∃ c t, W.heap[a0.block]? = some (.cells c t (0, 0))) ∧ (∃ c t, W.heap[a1.block]? = some (.cells c t (0, 0))) ∧ a0 ≠ a1 := by
  obtain ⟨a0, a1, _, _, c0, c1, t0, t1, hv0, hv1, _, _, _, _, _, _, hne, hb0, hb1⟩ := laid_sentinels2 h hg0 ht0 hg1 ht1 hi hrow hp he hft hfo hs hc hcs
  exact ⟨a0, a1, by simpa using World.var?_cell hg0 hv0 0, by simpa using World.var?_cell hg1 hv1 0, ⟨c0, t0, hb0⟩, ⟨c1, t1, hb1⟩, hne⟩

/-- A sentinel: its name, its place among the variables, its text. -/
structure Snt where
  name : String
  g : Nat
  text : List UInt8
def Snt.laid (nm : String) (s : Snt) : String × DataW Unit := (s.name, .iface nm (.ptr (.agg [.lit (.string s.text)])))
/-- The pointer that lies in a variable. -/
def addrIn (W : World) (g : Nat) : Addr := match W.cell? ⟨g, 0, none⟩ with
  | some (.iface _ (.pointer (some a))) => a
  | _ => ⟨0, 0, none⟩
theorem addrIn_of {t : TypeId} {a : Addr} {g : Nat} (h : W.cell? ⟨g, 0, none⟩ = some (.iface t (.pointer (some a)))) : addrIn W g = a := by
  unfold addrIn
  rw [h]

/-- All sentinels of a list of laid variables, two or more: a pointer each, no two the same, each over a row of cells without a frozen range. -/
theorem laid_sents {L : List (String × DataW Unit)} {S : List Snt} (h : laidMet P L W) (hsub : (S.map (Snt.laid nm)).Sublist L) (h2 : 2 ≤ S.length) (hg : ∀ s ∈ S, P.globalNamed s.name = some s.g ∧ (P.globals[s.g]?).map (·.type) = some ti)
    (hi : P.underlying ti = some (.interface ms)) (hrow : ∀ u, P.typeName? 3 u = some nm → u = tp)
    (hp : P.underlying tp = some (.pointer te)) (he : P.underlying te = some (.struct #[f])) (hft : f.type = ts) (hfo : f.offset = 0) (hs : P.underlying ts = some .string) (hc : P.cellsOf te = 1) (hcs : P.cellsOf ts = 1) :
    (∀ (i : Nat) (s : Snt), S[i]? = some s → W.cell? ⟨s.g, 0, none⟩ = some (.iface tp (.pointer (some (addrIn W s.g)))) ∧ ∃ c t, W.heap[(addrIn W s.g).block]? = some (.cells c t (0, 0))) ∧
    ∀ (i j : Nat) (s t : Snt), S[i]? = some s → S[j]? = some t → i ≠ j → addrIn W s.g ≠ addrIn W t.g := by
  have h := laid_sub hsub h
  have pair : ∀ (i j : Nat) (s t : Snt), S[i]? = some s → S[j]? = some t → i < j → (W.cell? ⟨s.g, 0, none⟩ = some (.iface tp (.pointer (some (addrIn W s.g)))) ∧ ∃ c t, W.heap[(addrIn W s.g).block]? = some (.cells c t (0, 0))) ∧ (W.cell? ⟨t.g, 0, none⟩ = some (.iface tp (.pointer (some (addrIn W t.g)))) ∧ ∃ c y, W.heap[(addrIn W t.g).block]? = some (.cells c y (0, 0))) ∧ addrIn W s.g ≠ addrIn W t.g := by
    intro i j s t es et hij
    have hl := laid_sub (sublist_pair hij (l := S.map (Snt.laid nm)) (by rw [List.getElem?_map, es]; rfl) (by rw [List.getElem?_map, et]; rfl)) h
    obtain ⟨g1, t1⟩ := hg s (List.mem_of_getElem? es)
    obtain ⟨g2, t2⟩ := hg t (List.mem_of_getElem? et)
    obtain ⟨a0, a1, c0, c1, k0, k1, hne⟩ := laid_pair (r := []) hl g1 t1 g2 t2 hi hrow hp he hft hfo hs hc hcs
    rw [addrIn_of c0, addrIn_of c1]
    exact ⟨⟨c0, k0⟩, ⟨c1, k1⟩, hne⟩
  constructor
  · intro i s es
    have hl := (List.getElem?_eq_some_iff.1 es).1
    by_cases h0 : i = 0
    · subst h0
      exact (pair 0 1 s S[1] es (List.getElem?_eq_getElem (by omega)) (by omega)).1
    · exact (pair 0 i S[0] s (List.getElem?_eq_getElem (by omega)) es (by omega)).2.1
  · intro i j s t es et hij
    rcases Nat.lt_or_gt_of_ne hij with h1 | h1
    · exact (pair i j s t es et h1).2.2
    · exact (pair j i t s et es h1).2.2.symm
end

/-- A sentinel's text, off what is laid. -/
def textOf : DataW Unit → List UInt8
  | .iface _ (.ptr (.agg [.lit (.string t)])) => t
  | _ => []
end Go.Proofs.YtdlkmdjhjdpmeaaGreatDoor

/- What a call of a statement of package 17 starts from: the sentinels of packages nums and crc, and crc's table of kinds, lie as the program's text lays them; and a world in which they do. -/
set_option linter.unusedVariables false
set_option linter.unusedSimpArgs false
namespace Go.Proofs.YtdlkmdjhjdpmeaaGreatDoor
open Go.ChangeShapes Go.WideShapes Go.ChangeAt Go.WideMaps Go.WideElems Go.RowKit

section
variable {H : Type} {enc : TypeId × Value → H} {P : Program} {w : World} {base : Nat} {spare : Nat → Bool} {held : Bool} {fuel : Nat} {e t ti tu : TypeId} {f0 f1 f2 : Field}

/-- Two ints and a number of 32 bits, read: their three cells. -/
theorem triple_of_trod {cs : List Value} {a b c : Int} {p : List MemPlace} (he : P.underlying e = some (.struct #[f0, f1, f2])) (h0t : f0.type = ti) (h0o : f0.offset = 0) (h1t : f1.type = ti) (h1o : f1.offset = 1) (h2t : f2.type = tu) (h2o : f2.offset = 2) (hi : P.underlying ti = some (.int .i64)) (hu : P.underlying tu = some (.int .u32)) (hci : P.cellsOf ti = 1) (hcu : P.cellsOf tu = 1)
    (h : DataW.trod enc P w base spare held fuel e cs = some (.agg [.lit (.int .i64 a), .lit (.int .i64 b), .lit (.int .u32 c)], p)) : cs[0]? = some (.int .i64 a) ∧ cs[1]? = some (.int .i64 b) ∧ cs[2]? = some (.int .u32 c) := by
  obtain ⟨ys, n, rfl, hx, hl, hyl, hf⟩ := DataW.trod_struct he h
  have k0 := hf 0 f0 rfl
  have k1 := hf 1 f1 rfl
  have k2 := hf 2 f2 rfl
  rw [h0t, h0o, hci] at k0
  rw [h1t, h1o, hci] at k1
  rw [h2t, h2o, hcu] at k2
  obtain ⟨y0, y1, y2, rfl⟩ : ∃ y0 y1 y2, ys = [y0, y1, y2] := by
    rcases ys with _ | ⟨y0, _ | ⟨y1, _ | ⟨y2, _ | ⟨y3, ys⟩⟩⟩⟩ <;> simp at hyl
    exact ⟨y0, y1, y2, rfl⟩
  obtain ⟨m0, e0, rfl, _⟩ := DataW.trod_int hi (k0.trans rfl)
  obtain ⟨m1, e1, rfl, _⟩ := DataW.trod_int hi (k1.trans rfl)
  obtain ⟨m2, e2, rfl, _⟩ := DataW.trod_int hu (k2.trans rfl)
  simp at hx
  obtain ⟨⟨rfl, rfl, rfl⟩, _⟩ := hx
  refine ⟨?_, ?_, ?_⟩
  · have := congrArg (·[0]?) e0
    simpa using this
  · have := congrArg (·[0]?) e1
    simpa using this
  · have := congrArg (·[0]?) e2
    simpa using this

/-- Three of them, read: their nine cells. -/
theorem triples3_of_trod {cs : List Value} {a0 b0 c0 a1 b1 c1 a2 b2 c2 : Int} {p : List MemPlace} (ht : P.underlying t = some (.array 3 e)) (he : P.underlying e = some (.struct #[f0, f1, f2])) (h0t : f0.type = ti) (h0o : f0.offset = 0) (h1t : f1.type = ti) (h1o : f1.offset = 1) (h2t : f2.type = tu) (h2o : f2.offset = 2) (hi : P.underlying ti = some (.int .i64)) (hu : P.underlying tu = some (.int .u32)) (hci : P.cellsOf ti = 1) (hcu : P.cellsOf tu = 1) (hce : P.cellsOf e = 3)
    (h : DataW.trod enc P w base spare held fuel t cs = some (.agg [.agg [.lit (.int .i64 a0), .lit (.int .i64 b0), .lit (.int .u32 c0)], .agg [.lit (.int .i64 a1), .lit (.int .i64 b1), .lit (.int .u32 c1)], .agg [.lit (.int .i64 a2), .lit (.int .i64 b2), .lit (.int .u32 c2)]], p)) :
    (cs[0]? = some (.int .i64 a0) ∧ cs[1]? = some (.int .i64 b0) ∧ cs[2]? = some (.int .u32 c0)) ∧ (cs[3]? = some (.int .i64 a1) ∧ cs[4]? = some (.int .i64 b1) ∧ cs[5]? = some (.int .u32 c1)) ∧ (cs[6]? = some (.int .i64 a2) ∧ cs[7]? = some (.int .i64 b2) ∧ cs[8]? = some (.int .u32 c2)) := by
  obtain ⟨xs, m, rfl, hx, hl, hxl, hf⟩ := DataW.trod_array ht h
  rw [hce] at hf
  have k0 := hf 0 (by omega)
  have k1 := hf 1 (by omega)
  have k2 := hf 2 (by omega)
  obtain ⟨y0, y1, y2, rfl⟩ : ∃ y0 y1 y2, xs = [y0, y1, y2] := by
    rcases xs with _ | ⟨y0, _ | ⟨y1, _ | ⟨y2, _ | ⟨y3, ys⟩⟩⟩⟩ <;> simp at hxl
    exact ⟨y0, y1, y2, rfl⟩
  obtain ⟨d0, p0⟩ := y0
  obtain ⟨d1, p1⟩ := y1
  obtain ⟨d2, p2⟩ := y2
  simp at hx
  obtain ⟨⟨rfl, rfl, rfl⟩, _⟩ := hx
  have j0 := triple_of_trod he h0t h0o h1t h1o h2t h2o hi hu hci hcu (k0.trans rfl)
  have j1 := triple_of_trod he h0t h0o h1t h1o h2t h2o hi hu hci hcu (k1.trans rfl)
  have j2 := triple_of_trod he h0t h0o h1t h1o h2t h2o hi hu hci hcu (k2.trans rfl)
  simp [List.getElem?_take, List.getElem?_drop] at j0 j1 j2
  exact ⟨j0, j1, j2⟩
end

theorem own : ownKnob Tryz.prog.godebug = none := by kernel_rfl
theorem laidOut : laidOutB Tryz.prog = true := by kernel_rfl
theorem gCK : Tryz.prog.globalNamed "postrider/crc.sumKinds" = some 6 := by kernel_rfl
theorem tCK : (Tryz.prog.globals[6]?).map (·.type) = some 176 := by kernel_rfl
theorem cellsErr : Tryz.prog.cellsOf 202 = 1 := by kernel_rfl
theorem cellsStr : Tryz.prog.cellsOf 9 = 1 := by kernel_rfl
theorem cellsInt : Tryz.prog.cellsOf 3 = 1 := by kernel_rfl
theorem cellsU32 : Tryz.prog.cellsOf 85 = 1 := by kernel_rfl
theorem cellsKind : Tryz.prog.cellsOf 127 = 3 := by kernel_rfl
theorem star : "*" ++ "errors.errorString" = "*errors.errorString" := by decide
theorem rowErr (u : TypeId) (h : Tryz.prog.typeName? 3 u = some "*errors.errorString") : u = 179 :=
  typeName_ptr_named (nm := "errors.errorString") (by rw [star]; kernel_rfl) (by kernel_rfl) (by decide) u (by rw [star]; exact h)

/-- What the rows list. -/
def laid6 : List (String × DataW Unit) := [("postrider/nums.errArg", Rows.laid_postrider_nums_errArg), ("postrider/nums.errNum", Rows.laid_postrider_nums_errNum), ("postrider/nums.errShort", Rows.laid_postrider_nums_errShort), ("postrider/crc.errArg", Rows.laid_postrider_crc_errArg), ("postrider/crc.errTable", Rows.laid_postrider_crc_errTable), ("postrider/crc.sumKinds", Rows.laid_postrider_crc_sumKinds)]
theorem door_met (os : Os) (args : Array Value) : laidMetH Tryz.prog laid6 ((World.doorLaid Tryz.prog 400 os).forCall (fun _ _ => 0) ⟨#[], args, []⟩).memory :=
  laidMetH_of_parts3 (fuel := 8) (laidMet_of_run' 8 (by kernel_rfl) (by kernel_rfl)) (by kernel_rfl) (by kernel_rfl)
/-- The five sentinels, in the rows' order. -/
def sents5 : List Snt := [⟨"postrider/nums.errArg", 0, textOf Rows.laid_postrider_nums_errArg⟩, ⟨"postrider/nums.errNum", 1, textOf Rows.laid_postrider_nums_errNum⟩, ⟨"postrider/nums.errShort", 4, textOf Rows.laid_postrider_nums_errShort⟩, ⟨"postrider/crc.errArg", 2, textOf Rows.laid_postrider_crc_errArg⟩, ⟨"postrider/crc.errTable", 3, textOf Rows.laid_postrider_crc_errTable⟩]
theorem sents5_laid : sents5.map (Snt.laid "*errors.errorString") = laid6.take 5 := rfl
theorem sents5_named : ∀ s ∈ sents5, Tryz.prog.globalNamed s.name = some s.g ∧ (Tryz.prog.globals[s.g]?).map (·.type) = some 77 := by
  intro s hs
  unfold sents5 at hs
  simp only [List.mem_cons, List.not_mem_nil, or_false] at hs
  rcases hs with rfl | rfl | rfl | rfl | rfl
  · exact ⟨by kernel_rfl, by kernel_rfl⟩
  · exact ⟨by kernel_rfl, by kernel_rfl⟩
  · exact ⟨by kernel_rfl, by kernel_rfl⟩
  · exact ⟨by kernel_rfl, by kernel_rfl⟩
  · exact ⟨by kernel_rfl, by kernel_rfl⟩
theorem kinds_of_laid {W : World} {r : List (String × DataW Unit)} (h : laidMet Tryz.prog (("postrider/crc.sumKinds", Rows.laid_postrider_crc_sumKinds) :: r) W) :
    (W.cell? ⟨6, 0, none⟩ = some (.int .i64 0) ∧ W.cell? ⟨6, 1, none⟩ = some (.int .i64 0) ∧ W.cell? ⟨6, 2, none⟩ = some (.int .u32 0)) ∧ (W.cell? ⟨6, 3, none⟩ = some (.int .i64 1) ∧ W.cell? ⟨6, 4, none⟩ = some (.int .i64 2) ∧ W.cell? ⟨6, 5, none⟩ = some (.int .u32 33800)) ∧ (W.cell? ⟨6, 6, none⟩ = some (.int .i64 2) ∧ W.cell? ⟨6, 7, none⟩ = some (.int .i64 4) ∧ W.cell? ⟨6, 8, none⟩ = some (.int .u32 2197175160)) := by
  obtain ⟨ps, ⟨g', t', cs, fuel, p, q, hg', ht', hvar, hd, _, _⟩, _⟩ := h
  obtain rfl := Option.some.inj (gCK.symm.trans hg')
  obtain rfl := Option.some.inj (tCK.symm.trans ht')
  have k := triples3_of_trod Tryz.underlying176 Tryz.underlying127 rfl rfl rfl rfl rfl rfl Tryz.underlying3 Tryz.underlying85 cellsInt cellsU32 cellsKind hd
  have c := fun i => World.var?_cell gCK hvar i
  rw [c 0, c 1, c 2, c 3, c 4, c 5, c 6, c 7, c 8]
  simpa using k

theorem env_of_laid {W : World} (h : laidMetH Tryz.prog laid6 W) : FrOK W := by
  rw [MakeChecks.laidMetH_plain _ _ _ (by kernel_rfl)] at h
  obtain ⟨hc, hn⟩ := laid_sents h (S := sents5) (by rw [sents5_laid]; exact List.take_sublist _ _) (by decide) sents5_named Tryz.underlying77 rowErr Tryz.underlying179 Tryz.underlying202 rfl rfl Tryz.underlying9 cellsErr cellsStr
  obtain ⟨⟨w0, w1, w2⟩, ⟨w3, w4, w5⟩, ⟨w6, w7, w8⟩⟩ := kinds_of_laid (r := []) (laid_sub (List.drop_sublist 5 laid6) h)
  refine ⟨⟨_, _, _, (hc 0 _ rfl).1, (hc 1 _ rfl).1, (hc 2 _ rfl).1, (hc 0 _ rfl).2, (hc 1 _ rfl).2, (hc 2 _ rfl).2, hn 0 1 _ _ rfl rfl (by decide), hn 0 2 _ _ rfl rfl (by decide), hn 1 2 _ _ rfl rfl (by decide)⟩,
    ⟨_, _, (hc 3 _ rfl).1, (hc 4 _ rfl).1, (hc 3 _ rfl).2, (hc 4 _ rfl).2, hn 3 4 _ _ rfl rfl (by decide), w0, w1, w2, w3, w4, w5, w6, w7, w8⟩⟩
end Go.Proofs.YtdlkmdjhjdpmeaaGreatDoor

/- A record that came in, and a list of records that came in, as they read. -/
set_option linter.unusedVariables false
set_option linter.unusedSimpArgs false
namespace Go.Proofs.YtdlkmdjhjdpmeaaGreatDoor
open Go.ChangeShapes Go.WideShapes Go.ChangeAt Go.WideMaps Go.WideElems Go.RowKit

theorem cellsRec : Tryz.prog.cellsOf 23 = 3 := by kernel_rfl
theorem kadd_block (a : Addr) (i : Nat) : (a.add i).block = a.block := by unfold Addr.add; split <;> rfl
theorem kadd_pos (A : Addr) (i : Nat) (h : i ≠ 0) : A.add i = ⟨A.block, A.off + i, none⟩ := by unfold Addr.add; rw [if_neg h]

section
variable {H : Type} {enc : TypeId × Value → H} {P : Program} {w : World} {base : Nat} {spare : Nat → Bool} {held : Bool} {fuel : Nat} {e ti ts : TypeId} {f0 f1 f2 : Field}
/-- A record, read: its three cells. -/
theorem rec_of_trod {cs : List Value} {x : DataW H × List MemPlace} (he : P.underlying e = some (.struct #[f0, f1, f2])) (h0t : f0.type = ti) (h0o : f0.offset = 0) (h1t : f1.type = ti) (h1o : f1.offset = 1) (h2t : f2.type = ts) (h2o : f2.offset = 2)
    (hi : P.underlying ti = some (.int .i64)) (hs : P.underlying ts = some .string) (hci : P.cellsOf ti = 1) (hcs : P.cellsOf ts = 1) (hlen : cs.length = 3)
    (h : DataW.trod enc P w base spare held fuel e cs = some x) :
    ∃ z : Rc, cs = [.int .i64 z.op, .int .i64 z.id, .string z.data] ∧ x.2 = [] ∧ z.data.size ≤ maxLen ∧ (Lit.int .i64 z.op).wf = true ∧ (Lit.int .i64 z.id).wf = true := by
  obtain ⟨ys, n, rfl, hx, hl, hyl, hf⟩ := DataW.trod_struct he h
  obtain ⟨c0, c1, c2, rfl⟩ : ∃ c0 c1 c2, cs = [c0, c1, c2] := by
    rcases cs with _ | ⟨c0, _ | ⟨c1, _ | ⟨c2, _ | ⟨c3, cs⟩⟩⟩⟩ <;> simp at hlen
    exact ⟨c0, c1, c2, rfl⟩
  have k0 := hf 0 f0 rfl
  have k1 := hf 1 f1 rfl
  have k2 := hf 2 f2 rfl
  rw [h0t, h0o, hci] at k0
  rw [h1t, h1o, hci] at k1
  rw [h2t, h2o, hcs] at k2
  obtain ⟨y0, y1, y2, rfl⟩ : ∃ y0 y1 y2, ys = [y0, y1, y2] := by
    rcases ys with _ | ⟨y0, _ | ⟨y1, _ | ⟨y2, _ | ⟨y3, ys⟩⟩⟩⟩ <;> simp at hyl
    exact ⟨y0, y1, y2, rfl⟩
  obtain ⟨m0, e0, rfl, w0⟩ := DataW.trod_int hi (k0.trans rfl)
  obtain ⟨m1, e1, rfl, w1⟩ := DataW.trod_int hi (k1.trans rfl)
  obtain ⟨m2, e2, rfl, w2⟩ := DataW.trod_string hs (k2.trans rfl)
  simp at e0 e1 e2
  subst e0 e1 e2
  refine ⟨⟨m0, m1, m2⟩, rfl, ?_, w2, w0, w1⟩
  rw [hx]
  simp
end

/-- Things known one by one, as a list. -/
theorem list_of {α : Type} (n : Nat) (p : Nat → α → Prop) (h : ∀ j, j < n → ∃ x, p j x) : ∃ l : List α, l.length = n ∧ ∀ j x, l[j]? = some x → p j x := by
  induction n with
  | zero => exact ⟨[], rfl, fun j x e => by simp at e⟩
  | succ n ih =>
    obtain ⟨l, hl, hp⟩ := ih (fun j hj => h j (by omega))
    obtain ⟨x, hx⟩ := h n (by omega)
    refine ⟨l ++ [x], by simp [hl], fun j y e => ?_⟩
    by_cases hj : j < n
    · rw [List.getElem?_append_left (by omega)] at e
      exact hp j y e
    · rw [List.getElem?_append_right (by omega)] at e
      have h0 : j - l.length = 0 := by
        rcases Nat.eq_zero_or_pos (j - l.length) with h0 | h0
        · exact h0
        · rw [List.getElem?_eq_none (by simp; omega)] at e; cases e
      rw [h0] at e
      obtain rfl : x = y := by simpa using e
      obtain rfl : j = n := by omega
      exact hx

set_option maxRecDepth 100000 in
set_option maxHeartbeats 1000000 in
/-- A list of records that came in. -/
theorem open_recsT {H : Type} {enc : TypeId × Value → H} {W : World} {r : Reach} {b0 : Nat} {v : Value} {d : DataW H} {ps : List MemPlace} (hval : Value.okWide Tryz.prog W r b0 25 v) (hd : DataW.Trod enc Tryz.prog W 0 (fun _ => true) true 25 v d ps) :
    ∃ (A : Option Addr) (c : Nat) (xs : List Rc), v = .slice A xs.length c ∧ RcsIn W A xs ∧ xs.length ≤ maxLen ∧ ∀ x ∈ ps, x.block < W.heap.size := by
  obtain ⟨a, len, cap, rfl⟩ := okWide_slice Tryz.underlying25 hval
  obtain ⟨fuel, hf⟩ := hd
  rcases Go.Deep.open_slice Tryz.underlying25 hf with ⟨hcs, hx⟩ | ⟨a', len', cap', m, n, D, Pl, hcs, _, hle, hm, hmm, hx, hel⟩
  · simp [Value.cells] at hcs
    obtain ⟨rfl, rfl, rfl⟩ := hcs
    have : ps = [] := by injection hx
    subst this
    exact ⟨none, 0, [], rfl, fun j x e => by simp at e, Nat.zero_le _, by simp⟩
  · simp [Value.cells] at hcs
    obtain ⟨rfl, rfl, rfl⟩ := hcs
    rw [if_pos rfl] at hmm
    subst hmm
    rw [cellsRec] at hx hel
    have hps : ps = MemPlace.row a' (m * 3) ++ (List.range m).flatMap Pl := by injection hx
    subst hps
    have each : ∀ j, j < m → ∃ z : Rc, (W.cell? (a'.add (j * 3)) = some (.int .i64 z.op) ∧ W.cell? ⟨(a'.add (j * 3)).block, (a'.add (j * 3)).off + 1, none⟩ = some (.int .i64 z.id) ∧ W.cell? ⟨(a'.add (j * 3)).block, (a'.add (j * 3)).off + 2, none⟩ = some (.string z.data)) ∧ z.data.size ≤ maxLen ∧ Pl j = [] := by
      intro j hj
      obtain ⟨cs', h1, h2⟩ := hel j hj
      obtain ⟨_, hl3, hc⟩ := World.cells?_some h1
      obtain ⟨z, rfl, hp, hz, _⟩ := rec_of_trod Tryz.underlying23 rfl rfl rfl rfl rfl rfl Tryz.underlying3 Tryz.underlying9 cellsInt cellsStr hl3 h2
      have q0 := hc 0 (by omega)
      have q1 := hc 1 (by omega)
      have q2 := hc 2 (by omega)
      rw [Go.Deep.add_add] at q0
      rw [kadd_pos _ _ (by decide)] at q1 q2
      exact ⟨z, ⟨q0, q1, q2⟩, hz, hp⟩
    obtain ⟨l, hll, hl⟩ := list_of len _ (fun j hj => each j (by omega))
    refine ⟨some a', m, l, by rw [hll], fun j x e => ?_, by omega, ?_⟩
    · obtain ⟨q, zs, _⟩ := hl j x e
      exact ⟨a', rfl, q, zs⟩
    · intro x hx
      rcases List.mem_append.1 hx with hx | hx
      · obtain ⟨i, hi, rfl⟩ := MemPlace.mem_row.1 hx
        obtain ⟨z, ⟨q0, _⟩, _⟩ := each 0 (by omega)
        have h1 := World.block_lt_of_cell? _ _ q0
        rw [kadd_block] at h1
        simpa [MemPlace.block] using h1
      · obtain ⟨j, hj, hpy⟩ := List.mem_flatMap.1 hx
        obtain ⟨z, _, _, hp⟩ := each j (List.mem_range.1 hj)
        rw [hp] at hpy
        cases hpy

set_option maxRecDepth 100000 in
/-- A record that came in. -/
theorem open_recT {H : Type} {enc : TypeId × Value → H} {W : World} {r : Reach} {b0 : Nat} {v : Value} {d : DataW H} {ps : List MemPlace} (hval : Value.okWide Tryz.prog W r b0 23 v) (hd : DataW.Trod enc Tryz.prog W 0 (fun _ => true) true 23 v d ps) :
    ∃ z : Rc, v = .agg #[.int .i64 z.op, .int .i64 z.id, .string z.data] ∧ ps = [] ∧ z.data.size ≤ maxLen := by
  obtain ⟨fuel, hf⟩ := hd
  obtain ⟨cs, rfl, hsz⟩ := okWide_struct Tryz.underlying23 hval
  rw [cellsRec] at hsz
  obtain ⟨z, e, hp, hz, _⟩ := rec_of_trod (cs := cs.toList) Tryz.underlying23 rfl rfl rfl rfl rfl rfl Tryz.underlying3 Tryz.underlying9 cellsInt cellsStr (Array.length_toList.trans hsz) hf
  refine ⟨z, ?_, hp, hz⟩
  rw [show cs = #[.int .i64 z.op, .int .i64 z.id, .string z.data] from Array.ext' e]
end Go.Proofs.YtdlkmdjhjdpmeaaGreatDoor
