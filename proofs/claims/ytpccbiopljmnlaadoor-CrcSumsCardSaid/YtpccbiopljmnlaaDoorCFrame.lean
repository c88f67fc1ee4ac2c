/- What a call of a statement of package 05 starts from: the sentinels of package crc, and its table of kinds, lie as the program's text lays them; and a world in which they do. -/
import Derived.Test.YtpccbiopljmnlaaDoorRows
import Derived.Test.YtpccbiopljmnlaaDoorCFind
import Derived.ProofKit
import Derived.LaidMore
import Derived.OpenShut
import Derived.Stop.Joined
import Derived.Stop.LaidTwo
set_option linter.unusedVariables false
set_option linter.unusedSimpArgs false
namespace Go.Proofs.YtpccbiopljmnlaaDoor
open Go.ChangeShapes Go.WideShapes Go.ChangeAt Go.WideMaps Go.WideElems Go.RowKit

section
variable {P : Program} {n0 n1 nm : String} {x0 x1 : List UInt8} {r : List (String × DataW Unit)} {W : World} {g0 g1 : Nat} {ti tp te ts : TypeId} {ms : Array (String × TypeId)} {f : Field}

/-- Two sentinels at the list's head: two pointers, not the same, each over a row of cells without a frozen range. -/
theorem laid_pair (h : laidMet P ((n0, .iface nm (.ptr (.agg [.lit (.string x0)]))) :: (n1, .iface nm (.ptr (.agg [.lit (.string x1)]))) :: r) W)
    (hg0 : P.globalNamed n0 = some g0) (ht0 : (P.globals[g0]?).map (·.type) = some ti) (hg1 : P.globalNamed n1 = some g1) (ht1 : (P.globals[g1]?).map (·.type) = some ti)
    (hi : P.underlying ti = some (.interface ms)) (hrow : ∀ u, P.typeName? 3 u = some nm → u = tp)
    (hp : P.underlying tp = some (.pointer te)) (he : P.underlying te = some (.struct #[f])) (hft : f.type = ts) (hfo : f.offset = 0) (hs : P.underlying ts = some .string) (hc : P.cellsOf te = 1) (hcs : P.cellsOf ts = 1) :
    ∃ a0 a1 : Addr, W.cell? ⟨g0, 0, none⟩ = some (.iface tp (.pointer (some a0))) ∧ W.cell? ⟨g1, 0, none⟩ = some (.iface tp (.pointer (some a1))) ∧
      (∃ c t, W.heap[a0.block]? = some (.cells c t (0, 0))) ∧ (∃ c t, W.heap[a1.block]? = some (.cells c t (0, 0))) ∧ a0 ≠ a1 := by
  obtain ⟨a0, a1, _, _, c0, c1, t0, t1, hv0, hv1, _, _, _, _, _, _, hne, hb0, hb1⟩ := laid_sentinels2 h hg0 ht0 hg1 ht1 hi hrow hp he hft hfo hs hc hcs
  exact ⟨a0, a1, by simpa using World.var?_cell hg0 hv0 0, by simpa using World.var?_cell hg1 hv1 0, ⟨c0, t0, hb0⟩, ⟨c1, t1, hb1⟩, hne⟩

end
section
variable {H : Type} {enc : TypeId × Value → H} {P : Program} {w : World} {base : Nat} {spare : Nat → Bool} {held : Bool} {fuel : Nat} {e t ti tu : TypeId} {f0 f1 f2 : Field}

/-- Two ints and a number of 32 bits, read: their three cells. -/
theorem triple_of_trod {cs : List Value} {a b c : Int} {p : List MemPlace} (he : P.underlying e = some (.struct #[f0, f1, f2])) (h0t : f0.type = ti) (h0o : f0.offset = 0) (h1t : f1.type = ti) (h1o : f1.offset = 1) (h2t : f2.type = tu) (h2o : f2.offset = 2) (hi : P.underlying ti = some (.int .i64)) (hu : P.underlying tu = some (.int .u32)) (hci : P.cellsOf ti = 1) (hcu : P.cellsOf tu = 1)
    (h : DataW.trod enc P w base spare held fuel e cs = some (.agg [.lit (.int .i64 a), .lit (.int .i64 b), .lit (.int .u32 c)], p)) : cs[0]? = some (.int .i64 a) ∧ cs[1]? = some (.int .i64 b) ∧ cs[2]? = some (.int .u32 c) := by
  obtain ⟨ys, n, rfl, hx, hl, hyl, hf⟩ := DataW.trod_struct he h
  have k0 := hf 0 f0 rfl
  have k1 := hf 1 f1 rfl
  have k2 := hf 2 f2 rfl
  rw [h0t, h0o, hci] at k0
  rw [h1t, h1o, hci] at k1
  rw [h2t, h2o, hcu] at k2
  obtain ⟨y0, y1, y2, rfl⟩ : ∃ y0 y1 y2, ys = [y0, y1, y2] := by
    rcases ys with _ | ⟨y0, _ | ⟨y1, _ | ⟨y2, _ | ⟨y3, ys⟩⟩⟩⟩ <;> simp at hyl
    exact ⟨y0, y1, y2, rfl⟩
  obtain ⟨m0, e0, rfl, _⟩ := DataW.trod_int hi (k0.trans rfl)
  obtain ⟨m1, e1, rfl, _⟩ := DataW.trod_int hi (k1.trans rfl)
  obtain ⟨m2, e2, rfl, _⟩ := DataW.trod_int hu (k2.trans rfl)
  simp at hx
  obtain ⟨⟨rfl, rfl, rfl⟩, _⟩ := hx
  refine ⟨?_, ?_, ?_⟩
  · have := congrArg (·[0]?) e0
    simpa using this
  · have := congrArg (·[0]?) e1
    simpa using this
  · have := congrArg (·[0]?) e2
    simpa using this

/-- Three of them, read: their nine cells. -/
theorem triples3_of_trod {cs : List Value} {a0 b0 c0 a1 b1 c1 a2 b2 c2 : Int} {p : List MemPlace} (ht : P.underlying t = some (.array 3 e)) (he : P.underlying e = some (.struct #[f0, f1, f2])) (h0t : f0.type = ti) (h0o : f0.offset = 0) (h1t : f1.type = ti) (h1o : f1.offset = 1) (h2t : f2.type = tu) (h2o : f2.offset = 2) (hi : P.underlying ti = some (.int .i64)) (hu : P.underlying tu = some (.int .u32)) (hci : P.cellsOf ti = 1) (hcu : P.cellsOf tu = 1) (hce : P.cellsOf e = 3)
    (h : DataW.trod enc P w base spare held fuel t cs = some (.agg [.agg [.lit (.int .i64 a0), .lit (.int .i64 b0), .lit (.int .u32 c0)], .agg [.lit (.int .i64 a1), .lit (.int .i64 b1), .lit (.int .u32 c1)], .agg [.lit (.int .i64 a2), .lit (.int .i64 b2), .lit (.int .u32 c2)]], p)) :
    (cs[0]? = some (.int .i64 a0) ∧ cs[1]? = some (.int .i64 b0) ∧ cs[2]? = some (.int .u32 c0)) ∧ (cs[3]? = some (.int .i64 a1) ∧ cs[4]? = some (.int .i64 b1) ∧ cs[5]? = some (.int .u32 c1)) ∧ (cs[6]? = some (.int .i64 a2) ∧ cs[7]? = some (.int .i64 b2) ∧ cs[8]? = some (.int .u32 c2)) := by
  obtain ⟨xs, m, rfl, hx, hl, hxl, hf⟩ := DataW.trod_array ht h
  rw [hce] at hf
  have k0 := hf 0 (by omega)
  have k1 := hf 1 (by omega)
  have k2 := hf 2 (by omega)
  obtain ⟨y0, y1, y2, rfl⟩ : ∃ y0 y1 y2, xs = [y0, y1, y2] := by
    rcases xs with _ | ⟨y0, _ | ⟨y1, _ | ⟨y2, _ | ⟨y3, ys⟩⟩⟩⟩ <;> simp at hxl
    exact ⟨y0, y1, y2, rfl⟩
  obtain ⟨d0, p0⟩ := y0
  obtain ⟨d1, p1⟩ := y1
  obtain ⟨d2, p2⟩ := y2
  simp at hx
  obtain ⟨⟨rfl, rfl, rfl⟩, _⟩ := hx
  have j0 := triple_of_trod he h0t h0o h1t h1o h2t h2o hi hu hci hcu (k0.trans rfl)
  have j1 := triple_of_trod he h0t h0o h1t h1o h2t h2o hi hu hci hcu (k1.trans rfl)
  have j2 := triple_of_trod he h0t h0o h1t h1o h2t h2o hi hu hci hcu (k2.trans rfl)
  simp [List.getElem?_take, List.getElem?_drop] at j0 j1 j2
  exact ⟨j0, j1, j2⟩
end

theorem own : ownKnob Tryd.prog.godebug = none := by kernel_rfl
theorem gC0 : Tryd.prog.globalNamed "postrider/crc.errArg" = some 0 := by kernel_rfl
theorem gC1 : Tryd.prog.globalNamed "postrider/crc.errTable" = some 1 := by kernel_rfl
theorem gCK : Tryd.prog.globalNamed "postrider/crc.sumKinds" = some 2 := by kernel_rfl
theorem tC0 : (Tryd.prog.globals[0]?).map (·.type) = some 47 := by kernel_rfl
theorem tC1 : (Tryd.prog.globals[1]?).map (·.type) = some 47 := by kernel_rfl
theorem tCK : (Tryd.prog.globals[2]?).map (·.type) = some 81 := by kernel_rfl
theorem cellsErr : Tryd.prog.cellsOf 142 = 1 := by kernel_rfl
theorem cellsStr : Tryd.prog.cellsOf 9 = 1 := by kernel_rfl
theorem cellsInt : Tryd.prog.cellsOf 3 = 1 := by kernel_rfl
theorem cellsU32 : Tryd.prog.cellsOf 29 = 1 := by kernel_rfl
theorem cellsKind : Tryd.prog.cellsOf 60 = 3 := by kernel_rfl
theorem star : "*" ++ "errors.errorString" = "*errors.errorString" := by decide
theorem rowErr (u : TypeId) (h : Tryd.prog.typeName? 3 u = some "*errors.errorString") : u = 117 :=
  typeName_ptr_named (nm := "errors.errorString") (by rw [star]; kernel_rfl) (by kernel_rfl) (by decide) u (by rw [star]; exact h)

/-- What the rows list. -/
def laid5 : List (String × DataW Unit) := [("postrider/nums.errArg", Rows.laid_postrider_nums_errArg), ("postrider/nums.errNum", Rows.laid_postrider_nums_errNum), ("postrider/crc.errArg", Rows.laid_postrider_crc_errArg), ("postrider/crc.errTable", Rows.laid_postrider_crc_errTable), ("postrider/crc.sumKinds", Rows.laid_postrider_crc_sumKinds)]

theorem door_met (os : Os) (args : Array Value) : laidMetH Tryd.prog laid5 ((World.doorLaid Tryd.prog 400 os).forCall (fun _ _ => 0) ⟨#[], args, []⟩).memory :=
  laidMetH_of_parts3 (fuel := 8) (laidMet_of_run' 8 (by kernel_rfl) (by kernel_rfl)) (by kernel_rfl) (by kernel_rfl)

theorem kinds_of_laid {W : World} {r : List (String × DataW Unit)} (h : laidMet Tryd.prog (("postrider/crc.sumKinds", Rows.laid_postrider_crc_sumKinds) :: r) W) :
    (W.cell? ⟨2, 0, none⟩ = some (.int .i64 0) ∧ W.cell? ⟨2, 1, none⟩ = some (.int .i64 0) ∧ W.cell? ⟨2, 2, none⟩ = some (.int .u32 0)) ∧ (W.cell? ⟨2, 3, none⟩ = some (.int .i64 1) ∧ W.cell? ⟨2, 4, none⟩ = some (.int .i64 2) ∧ W.cell? ⟨2, 5, none⟩ = some (.int .u32 33800)) ∧ (W.cell? ⟨2, 6, none⟩ = some (.int .i64 2) ∧ W.cell? ⟨2, 7, none⟩ = some (.int .i64 4) ∧ W.cell? ⟨2, 8, none⟩ = some (.int .u32 2197175160)) := by
  obtain ⟨ps, ⟨g', t', cs, fuel, p, q, hg', ht', hvar, hd, _, _⟩, _⟩ := h
  obtain rfl := Option.some.inj (gCK.symm.trans hg')
  obtain rfl := Option.some.inj (tCK.symm.trans ht')
  have k := triples3_of_trod Tryd.underlying81 Tryd.underlying60 rfl rfl rfl rfl rfl rfl Tryd.underlying3 Tryd.underlying29 cellsInt cellsU32 cellsKind hd
  have c := fun i => World.var?_cell gCK hvar i
  rw [c 0, c 1, c 2, c 3, c 4, c 5, c 6, c 7, c 8]
  simpa using k

theorem crc_of_laid {W : World} (h : laidMetH Tryd.prog laid5 W) : CrcOK W := by
  rw [MakeChecks.laidMetH_plain _ _ _ (by kernel_rfl)] at h
  have h2 := h.tail.tail
  have p01 := laid_pair h2 gC0 tC0 gC1 tC1 Tryd.underlying47 rowErr Tryd.underlying117 Tryd.underlying142 rfl rfl Tryd.underlying9 cellsErr cellsStr
  have hw := kinds_of_laid h2.tail.tail
  obtain ⟨b0, b1, c0, c1, k0, k1, n01⟩ := p01
  obtain ⟨⟨w0, w1, w2⟩, ⟨w3, w4, w5⟩, ⟨w6, w7, w8⟩⟩ := hw
  exact ⟨b0, b1, c0, c1, k0, k1, n01, w0, w1, w2, w3, w4, w5, w6, w7, w8⟩
end Go.Proofs.YtpccbiopljmnlaaDoor
