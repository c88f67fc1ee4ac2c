/- What a call of a statement of package 04 starts from: the type's handle that package errors keeps, the sentinels of packages nums and head, and head's table of widths, lie as the program's text lays them; and a world in which they do; an item that came in. -/
import Derived.Test.YtljfgchmogdljaaGreatDoorRows
import Derived.Test.YtljfgchmogdljaaGreatDoorG6
import Derived.Test.YtljfgchmogdljaaGreatDoorG4
import Derived.Test.YtljfgchmogdljaaGreatDoorIOpen
import Derived.ProofKit
import Derived.LaidMore
import Derived.LaidHandle
import Derived.Carry
import Derived.ChangeSlices
import Derived.OpenShut
import Derived.Stop.Joined
import Derived.Stop.LaidTwo
set_option linter.unusedVariables false
set_option linter.unusedSimpArgs false
namespace Go.Proofs.YtljfgchmogdljaaGreatDoor
open Go.ChangeShapes Go.WideShapes Go.ChangeAt Go.WideMaps Go.WideElems Go.RowKit

/-- A list of laid variables without its second one. -/
theorem laid_second {P : Program} {x y : String × DataW Unit} {r : List (String × DataW Unit)} {w : World} (h : laidMet P (x :: y :: r) w) : laidMet P (x :: r) w := by
  obtain ⟨ps, hv, hnd, hrows⟩ := h
  obtain ⟨n, d⟩ := x
  obtain ⟨m, d'⟩ := y
  obtain ⟨g, t, cs, fuel, p, q, a1, a2, a3, a4, ⟨g', t', cs', fuel', p', q', _, _, _, _, hq, rfl⟩, rfl⟩ := hv
  refine ⟨_, ⟨g, t, cs, fuel, p, q', a1, a2, a3, a4, hq, rfl⟩, ?_, ?_⟩
  · exact List.Nodup.sublist (List.Sublist.append (List.Sublist.refl _) (List.sublist_append_right _ _)) hnd
  · intro b off hm
    refine hrows b off ?_
    rcases List.mem_append.1 hm with hm | hm
    · exact List.mem_append_left _ hm
    · exact List.mem_append_right _ (List.mem_append_right _ hm)

section
variable {P : Program} {n0 n1 nm : String} {x0 x1 : List UInt8} {r : List (String × DataW Unit)} {W : World} {g0 g1 : Nat} {ti tp te ts : TypeId} {ms : Array (String × TypeId)} {f : Field}

/-- Two sentinels at the list's head: two pointers, not the same, each over a row of cells without a frozen range. -/
theorem laid_pair (h : laidMet P ((n0, .iface nm (.ptr (.agg [.lit (.string x0)]))) :: (n1, .iface nm (.ptr (.agg [.lit (.string x1)]))) :: r) W)
    (hg0 : P.globalNamed n0 = some g0) (ht0 : (P.globals[g0]?).map (·.type) = some ti) (hg1 : P.globalNamed n1 = some g1) (ht1 : (P.globals[g1]?).map (·.type) = some ti)
    (hi : P.underlying ti = some (.interface ms)) (hrow : ∀ u, P.typeName? 3 u = some nm → u = tp)
    (hp : P.underlying tp = some (.pointer te)) (he : P.underlying te = some (.struct #[f])) (hft : f.type = ts) (hfo : f.offset = 0) (hs : P.underlying ts = some .string) (hc : P.cellsOf te = 1) (hcs : P.cellsOf ts = 1) :
    ∃ a0 a1 : Addr, W.cell? ⟨g0, 0, none⟩ = some (.iface tp (.pointer (some a0))) ∧ W.cell? ⟨g1, 0, none⟩ = some (.iface tp (.pointer (some a1))) ∧
      (∃ c t, W.heap[a0.block]? = some (.cells c t (0, 0))) ∧ (∃ c t, W.heap[a1.block]? = some (.cells c t (0, 0))) ∧ a0 ≠ a1 := by
  obtain ⟨a0, a1, _, _, c0, c1, t0, t1, hv0, hv1, _, _, _, _, _, _, hne, hb0, hb1⟩ := laid_sentinels2 h hg0 ht0 hg1 ht1 hi hrow hp he hft hfo hs hc hcs
  exact ⟨a0, a1, by simpa using World.var?_cell hg0 hv0 0, by simpa using World.var?_cell hg1 hv1 0, ⟨c0, t0, hb0⟩, ⟨c1, t1, hb1⟩, hne⟩
end

/-- Two sentinels' pointers that are known by their cells are those of the pair. -/
theorem ne_of_pair {W : World} {g0 g1 : Nat} {tp : TypeId} {a0 a1 : Addr} (h : ∃ b0 b1 : Addr, W.cell? ⟨g0, 0, none⟩ = some (.iface tp (.pointer (some b0))) ∧ W.cell? ⟨g1, 0, none⟩ = some (.iface tp (.pointer (some b1))) ∧
      (∃ c t, W.heap[b0.block]? = some (.cells c t (0, 0))) ∧ (∃ c t, W.heap[b1.block]? = some (.cells c t (0, 0))) ∧ b0 ≠ b1)
    (h0 : W.cell? ⟨g0, 0, none⟩ = some (.iface tp (.pointer (some a0)))) (h1 : W.cell? ⟨g1, 0, none⟩ = some (.iface tp (.pointer (some a1)))) : a0 ≠ a1 := by
  obtain ⟨b0, b1, k0, k1, _, _, hne⟩ := h
  rw [k0] at h0
  rw [k1] at h1
  simp only [Option.some.injEq, Value.iface.injEq, Value.pointer.injEq, true_and] at h0 h1
  rw [← h0, ← h1]
  exact hne

section
variable {H : Type} {enc : TypeId × Value → H} {P : Program} {w : World} {base : Nat} {spare : Nat → Bool} {held : Bool} {fuel : Nat} {e t ti : TypeId} {f0 f1 : Field}

/-- A pair of ints, read: its two cells. -/
theorem pair_of_trod {cs : List Value} {a b : Int} {p : List MemPlace} (he : P.underlying e = some (.struct #[f0, f1])) (h0t : f0.type = ti) (h0o : f0.offset = 0) (h1t : f1.type = ti) (h1o : f1.offset = 1) (hi : P.underlying ti = some (.int .i64)) (hci : P.cellsOf ti = 1)
    (h : DataW.trod enc P w base spare held fuel e cs = some (.agg [.lit (.int .i64 a), .lit (.int .i64 b)], p)) : cs[0]? = some (.int .i64 a) ∧ cs[1]? = some (.int .i64 b) := by
  obtain ⟨ys, n, rfl, hx, hl, hyl, hf⟩ := DataW.trod_struct he h
  have k0 := hf 0 f0 rfl
  have k1 := hf 1 f1 rfl
  rw [h0t, h0o, hci] at k0
  rw [h1t, h1o, hci] at k1
  obtain ⟨y0, y1, rfl⟩ : ∃ y0 y1, ys = [y0, y1] := by
    rcases ys with _ | ⟨y0, _ | ⟨y1, _ | ⟨y2, ys⟩⟩⟩ <;> simp at hyl
    exact ⟨y0, y1, rfl⟩
  obtain ⟨m0, e0, rfl, _⟩ := DataW.trod_int hi (k0.trans rfl)
  obtain ⟨m1, e1, rfl, _⟩ := DataW.trod_int hi (k1.trans rfl)
  simp at hx
  obtain ⟨⟨rfl, rfl⟩, _⟩ := hx
  constructor
  · have := congrArg (·[0]?) e0
    simpa using this
  · have := congrArg (·[0]?) e1
    simpa using this

/-- Four pairs of ints, read: their eight cells. -/
theorem pairs4_of_trod {cs : List Value} {a0 b0 a1 b1 a2 b2 a3 b3 : Int} {p : List MemPlace} (ht : P.underlying t = some (.array 4 e)) (he : P.underlying e = some (.struct #[f0, f1])) (h0t : f0.type = ti) (h0o : f0.offset = 0) (h1t : f1.type = ti) (h1o : f1.offset = 1) (hi : P.underlying ti = some (.int .i64)) (hci : P.cellsOf ti = 1) (hce : P.cellsOf e = 2)
    (h : DataW.trod enc P w base spare held fuel t cs = some (.agg [.agg [.lit (.int .i64 a0), .lit (.int .i64 b0)], .agg [.lit (.int .i64 a1), .lit (.int .i64 b1)], .agg [.lit (.int .i64 a2), .lit (.int .i64 b2)], .agg [.lit (.int .i64 a3), .lit (.int .i64 b3)]], p)) :
    (cs[0]? = some (.int .i64 a0) ∧ cs[1]? = some (.int .i64 b0)) ∧ (cs[2]? = some (.int .i64 a1) ∧ cs[3]? = some (.int .i64 b1)) ∧ (cs[4]? = some (.int .i64 a2) ∧ cs[5]? = some (.int .i64 b2)) ∧ (cs[6]? = some (.int .i64 a3) ∧ cs[7]? = some (.int .i64 b3)) := by
  obtain ⟨xs, m, rfl, hx, hl, hxl, hf⟩ := DataW.trod_array ht h
  rw [hce] at hf
  have k0 := hf 0 (by omega)
  have k1 := hf 1 (by omega)
  have k2 := hf 2 (by omega)
  have k3 := hf 3 (by omega)
  obtain ⟨y0, y1, y2, y3, rfl⟩ : ∃ y0 y1 y2 y3, xs = [y0, y1, y2, y3] := by
    rcases xs with _ | ⟨y0, _ | ⟨y1, _ | ⟨y2, _ | ⟨y3, _ | ⟨y4, ys⟩⟩⟩⟩⟩ <;> simp at hxl
    exact ⟨y0, y1, y2, y3, rfl⟩
  obtain ⟨d0, p0⟩ := y0
  obtain ⟨d1, p1⟩ := y1
  obtain ⟨d2, p2⟩ := y2
  obtain ⟨d3, p3⟩ := y3
  simp at hx
  obtain ⟨⟨rfl, rfl, rfl, rfl⟩, _⟩ := hx
  have j0 := pair_of_trod he h0t h0o h1t h1o hi hci (k0.trans rfl)
  have j1 := pair_of_trod he h0t h0o h1t h1o hi hci (k1.trans rfl)
  have j2 := pair_of_trod he h0t h0o h1t h1o hi hci (k2.trans rfl)
  have j3 := pair_of_trod he h0t h0o h1t h1o hi hci (k3.trans rfl)
  simp [List.getElem?_take, List.getElem?_drop] at j0 j1 j2 j3
  exact ⟨j0, j1, j2, j3⟩
end

theorem own : ownKnob Tryz.prog.godebug = none := by kernel_rfl
theorem gN0 : Tryz.prog.globalNamed "postrider/nums.errArg" = some 5 := by kernel_rfl
theorem gN1 : Tryz.prog.globalNamed "postrider/nums.errNum" = some 6 := by kernel_rfl
theorem gN2 : Tryz.prog.globalNamed "postrider/nums.errShort" = some 8 := by kernel_rfl
theorem gH0 : Tryz.prog.globalNamed "postrider/head.errArg" = some 0 := by kernel_rfl
theorem gH1 : Tryz.prog.globalNamed "postrider/head.errNum" = some 1 := by kernel_rfl
theorem gH2 : Tryz.prog.globalNamed "postrider/head.errShort" = some 3 := by kernel_rfl
theorem gH3 : Tryz.prog.globalNamed "postrider/head.errForm" = some 7 := by kernel_rfl
theorem gHW : Tryz.prog.globalNamed "postrider/head.wides" = some 4 := by kernel_rfl
theorem tN0 : (Tryz.prog.globals[5]?).map (·.type) = some 45 := by kernel_rfl
theorem tN1 : (Tryz.prog.globals[6]?).map (·.type) = some 45 := by kernel_rfl
theorem tN2 : (Tryz.prog.globals[8]?).map (·.type) = some 45 := by kernel_rfl
theorem tH0 : (Tryz.prog.globals[0]?).map (·.type) = some 45 := by kernel_rfl
theorem tH1 : (Tryz.prog.globals[1]?).map (·.type) = some 45 := by kernel_rfl
theorem tH2 : (Tryz.prog.globals[3]?).map (·.type) = some 45 := by kernel_rfl
theorem tH3 : (Tryz.prog.globals[7]?).map (·.type) = some 45 := by kernel_rfl
theorem tHW : (Tryz.prog.globals[4]?).map (·.type) = some 159 := by kernel_rfl
theorem cellsErr : Tryz.prog.cellsOf 212 = 1 := by kernel_rfl
theorem cellsStr : Tryz.prog.cellsOf 9 = 1 := by kernel_rfl
theorem cellsInt : Tryz.prog.cellsOf 3 = 1 := by kernel_rfl
theorem cellsWide : Tryz.prog.cellsOf 137 = 2 := by kernel_rfl
theorem star : "*" ++ "errors.errorString" = "*errors.errorString" := by decide
theorem rowErr (u : TypeId) (h : Tryz.prog.typeName? 3 u = some "*errors.errorString") : u = 192 :=
  typeName_ptr_named (nm := "errors.errorString") (by rw [star]; kernel_rfl) (by kernel_rfl) (by decide) u (by rw [star]; exact h)

/-- Two sentinels of the program at the list's head. -/
theorem pairH {n0 n1 : String} {x0 x1 : List UInt8} {r : List (String × DataW Unit)} {W : World} {g0 g1 : Nat}
    (h : laidMet Tryz.prog ((n0, .iface "*errors.errorString" (.ptr (.agg [.lit (.string x0)]))) :: (n1, .iface "*errors.errorString" (.ptr (.agg [.lit (.string x1)]))) :: r) W)
    (hg0 : Tryz.prog.globalNamed n0 = some g0) (ht0 : (Tryz.prog.globals[g0]?).map (·.type) = some 45) (hg1 : Tryz.prog.globalNamed n1 = some g1) (ht1 : (Tryz.prog.globals[g1]?).map (·.type) = some 45) :
    ∃ a0 a1 : Addr, W.cell? ⟨g0, 0, none⟩ = some (.iface 192 (.pointer (some a0))) ∧ W.cell? ⟨g1, 0, none⟩ = some (.iface 192 (.pointer (some a1))) ∧
      (∃ c t, W.heap[a0.block]? = some (.cells c t (0, 0))) ∧ (∃ c t, W.heap[a1.block]? = some (.cells c t (0, 0))) ∧ a0 ≠ a1 :=
  laid_pair h hg0 ht0 hg1 ht1 Tryz.underlying45 rowErr Tryz.underlying192 Tryz.underlying212 rfl rfl Tryz.underlying9 cellsErr cellsStr

/-- What the rows list. -/
def laid8 : List (String × DataW Unit) := [("postrider/nums.errArg", Rows.laid_postrider_nums_errArg), ("postrider/nums.errNum", Rows.laid_postrider_nums_errNum), ("postrider/nums.errShort", Rows.laid_postrider_nums_errShort), ("postrider/head.errArg", Rows.laid_postrider_head_errArg), ("postrider/head.errNum", Rows.laid_postrider_head_errNum), ("postrider/head.errShort", Rows.laid_postrider_head_errShort), ("postrider/head.errForm", Rows.laid_postrider_head_errForm), ("postrider/head.wides", Rows.laid_postrider_head_wides)]

/-- What the rows list, the type's handle first. -/
def laid9 : List (String × DataW Unit) := ("errors.errorType", Rows.laid_errors_errorType) :: laid8

theorem laidOut : laidOutB Tryz.prog = true := by kernel_rfl
theorem gEt : Tryz.prog.globalNamed "errors.errorType" = some 2 := by kernel_rfl
theorem rtRow : (Tryz.prog.cutTypes.find? (·.1 == "internal/reflectlite.rtype")).map (·.2) = some 143 := by kernel_rfl
theorem oneRow : ((List.range Tryz.prog.types.size).filter fun t => Tryz.prog.rowNamed t [101, 114, 114, 111, 114]) = [45] := by kernel_rfl
theorem errHandle : typeHandle Tryz.prog 45 = .pointer (some ⟨9, 45, none⟩) := by kernel_rfl

theorem laid9_parts {W : World} (h : laidMetH Tryz.prog laid9 W) : laidMet Tryz.prog laid8 W ∧ handlesMet Tryz.prog [("errors.errorType", Rows.laid_errors_errorType)] W := h

theorem env_of_laid {W : World} (h : laidMetH Tryz.prog laid9 W) : EnvE W := by
  obtain ⟨name, u, ty, e1, e2, e3, e4, e5⟩ := (laid9_parts h).2 _ (List.mem_singleton.2 rfl)
  have en : name = [101, 114, 114, 111, 114] := (Option.some.inj e1).symm
  subst en
  obtain rfl := Option.some.inj (rtRow.symm.trans e2)
  have hm : ty ∈ (List.range Tryz.prog.types.size).filter fun t => Tryz.prog.rowNamed t [101, 114, 114, 111, 114] := List.mem_filter.2 ⟨List.mem_range.2 e3, e4⟩
  rw [oneRow] at hm
  obtain rfl := List.mem_singleton.1 hm
  rw [errHandle] at e5
  exact ⟨by simpa using World.var?_cell gEt e5 0⟩

theorem door_met (os : Os) (args : Array Value) : laidMetH Tryz.prog laid9 ((World.doorLaid Tryz.prog 400 os).forCall (fun _ _ => 0) ⟨#[], args, []⟩).memory :=
  laidMetH_of_parts3 (fuel := 8) (laidMet_of_run' 8 (by kernel_rfl) (by kernel_rfl)) (by kernel_rfl) (by kernel_rfl)

theorem wides_of_laid {W : World} {r : List (String × DataW Unit)} (h : laidMet Tryz.prog (("postrider/head.wides", Rows.laid_postrider_head_wides) :: r) W) :
    (W.cell? ⟨4, 0, none⟩ = some (.int .i64 24) ∧ W.cell? ⟨4, 1, none⟩ = some (.int .i64 1)) ∧ (W.cell? ⟨4, 2, none⟩ = some (.int .i64 25) ∧ W.cell? ⟨4, 3, none⟩ = some (.int .i64 2)) ∧ (W.cell? ⟨4, 4, none⟩ = some (.int .i64 26) ∧ W.cell? ⟨4, 5, none⟩ = some (.int .i64 4)) ∧ (W.cell? ⟨4, 6, none⟩ = some (.int .i64 27) ∧ W.cell? ⟨4, 7, none⟩ = some (.int .i64 8)) := by
  obtain ⟨ps, ⟨g', t', cs, fuel, p, q, hg', ht', hvar, hd, _, _⟩, _⟩ := h
  obtain rfl := Option.some.inj (gHW.symm.trans hg')
  obtain rfl := Option.some.inj (tHW.symm.trans ht')
  have k := pairs4_of_trod Tryz.underlying159 Tryz.underlying137 rfl rfl rfl rfl Tryz.underlying3 cellsInt cellsWide hd
  have c := fun i => World.var?_cell gHW hvar i
  rw [c 0, c 1, c 2, c 3, c 4, c 5, c 6, c 7]
  simpa using k

theorem head_of_laid {W : World} (h9 : laidMetH Tryz.prog laid9 W) : HeadOK W := by
  have h := (laid9_parts h9).1
  have p01 := pairH h gN0 tN0 gN1 tN1
  have p02 := pairH (laid_second h) gN0 tN0 gN2 tN2
  have h1 := h.tail
  have p12 := pairH h1 gN1 tN1 gN2 tN2
  have h3 := h1.tail.tail
  have q01 := pairH h3 gH0 tH0 gH1 tH1
  have q02 := pairH (laid_second h3) gH0 tH0 gH2 tH2
  have q03 := pairH (laid_second (laid_second h3)) gH0 tH0 gH3 tH3
  have h4 := h3.tail
  have q12 := pairH h4 gH1 tH1 gH2 tH2
  have q13 := pairH (laid_second h4) gH1 tH1 gH3 tH3
  have h5 := h4.tail
  have q23 := pairH h5 gH2 tH2 gH3 tH3
  have hw := wides_of_laid h5.tail.tail
  obtain ⟨a0, a1, c0, c1, k0, k1, n01⟩ := p01
  obtain ⟨_, a2, _, c2, _, k2, _⟩ := id p02
  obtain ⟨b0, b1, d0, d1, l0, l1, m01⟩ := q01
  obtain ⟨b2, b3, d2, d3, l2, l3, m23⟩ := q23
  obtain ⟨⟨w0, w1⟩, ⟨w2, w3⟩, ⟨w4, w5⟩, ⟨w6, w7⟩⟩ := hw
  exact ⟨a0, a1, a2, b0, b1, b2, b3, ⟨c0, c1, c2, k0, k1, k2, n01, ne_of_pair p02 c0 c2, ne_of_pair p12 c1 c2⟩,
    ⟨d0, d1, d2, d3, l0, l1, l2, l3, m01, ne_of_pair q02 d0 d2, ne_of_pair q03 d0 d3, ne_of_pair q12 d1 d2, ne_of_pair q13 d1 d3, m23, w0, w1, w2, w3, w4, w5, w6, w7⟩⟩

theorem cellsL : Tryz.prog.cellsOf 22 = 1 := by kernel_rfl
theorem cellsI : Tryz.prog.cellsOf 24 = 4 := by kernel_rfl

set_option maxRecDepth 100000 in
/-- An item that came in, as it reads. -/
theorem open_itemT {H : Type} {enc : TypeId × Value → H} {W : World} {r : Reach} {b0 : Nat} {v : Value} {d : DataW H} {ps : List MemPlace} (hval : Value.okWide Tryz.prog W r b0 24 v) (hd : DataW.Trod enc Tryz.prog W 0 (fun _ => true) true 24 v d ps) :
    ∃ x : Itm, ItV (fun _ => True) W x v ∧ ∀ y ∈ ps, y.block < W.heap.size := by
  obtain ⟨fuel, hf⟩ := hd
  obtain ⟨it, c0, c1, c2, c3, hcs, hit, hp⟩ := item_of_trod Tryz.underlying24 rfl rfl rfl rfl rfl rfl rfl rfl Tryz.underlying3 Tryz.underlying9 Tryz.underlying22 cellsInt cellsStr cellsL cellsI fuel _ _ hf
  refine ⟨it, ?_, hp⟩
  have hv : v = .agg #[c0, c1, c2, c3] := by
    obtain ⟨cs, rfl, _⟩ := okWide_struct Tryz.underlying24 hval
    have e : cs.toList = [c0, c1, c2, c3] := hcs
    rw [show cs = #[c0, c1, c2, c3] from Array.ext' e]
  rw [hv]
  exact hit
end Go.Proofs.YtljfgchmogdljaaGreatDoor
