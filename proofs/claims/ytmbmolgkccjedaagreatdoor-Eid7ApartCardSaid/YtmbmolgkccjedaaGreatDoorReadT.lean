/- What is read of laid tables, and of names that came in; a row whose calls start from what is laid, at a world of its shape. -/
import Derived.Test.YtmbmolgkccjedaaGreatDoorChecked
import Derived.ProofKit
import Derived.LaidMore
import Derived.OpenShut
import Derived.Stop.Joined
import Derived.Carry
import Derived.ChangeSlices
import Derived.HandedShaped
import Derived.ShapedOpen
set_option linter.unusedVariables false
set_option linter.unusedSimpArgs false
namespace Go.Proofs.YtmbmolgkccjedaaGreatDoor
open Go.ChangeShapes Go.WideShapes Go.ChangeAt Go.WideMaps Go.WideElems Go.RowKit

section
variable {H : Type} {enc : TypeId × Value → H} {P : Program} {w : World} {base : Nat} {spare : Nat → Bool} {held : Bool} {fuel : Nat} {e t ti tu ts : TypeId} {f0 f1 f2 f3 f4 : Field}
/-- A pair of ints, read: its two cells. -/
theorem pair_of_trod {cs : List Value} {a b : Int} {p : List MemPlace} (he : P.underlying e = some (.struct #[f0, f1])) (h0t : f0.type = ti) (h0o : f0.offset = 0) (h1t : f1.type = ti) (h1o : f1.offset = 1) (hi : P.underlying ti = some (.int .i64)) (hci : P.cellsOf ti = 1)
    (h : DataW.trod enc P w base spare held fuel e cs = some (.agg [.lit (.int .i64 a), .lit (.int .i64 b)], p)) : cs[0]? = some (.int .i64 a) ∧ cs[1]? = some (.int .i64 b) := by
  obtain ⟨ys, n, rfl, hx, hl, hyl, hf⟩ := DataW.trod_struct he h
  have k0 := hf 0 f0 rfl
  have k1 := hf 1 f1 rfl
  rw [h0t, h0o, hci] at k0
  rw [h1t, h1o, hci] at k1
  obtain ⟨y0, y1, rfl⟩ : ∃ y0 y1, ys = [y0, y1] := by
    rcases ys with _ | ⟨y0, _ | ⟨y1, _ | ⟨y2, ys⟩⟩⟩ <;> simp at hyl
    exact ⟨y0, y1, rfl⟩
  obtain ⟨m0, e0, rfl, _⟩ := DataW.trod_int hi (k0.trans rfl)
  obtain ⟨m1, e1, rfl, _⟩ := DataW.trod_int hi (k1.trans rfl)
  simp at hx
  obtain ⟨⟨rfl, rfl⟩, _⟩ := hx
  constructor
  · have := congrArg (·[0]?) e0
    simpa using this
  · have := congrArg (·[0]?) e1
    simpa using this

/-- Four pairs of ints, read: their eight cells. -/
theorem pairs4_of_trod {cs : List Value} {a0 b0 a1 b1 a2 b2 a3 b3 : Int} {p : List MemPlace} (ht : P.underlying t = some (.array 4 e)) (he : P.underlying e = some (.struct #[f0, f1])) (h0t : f0.type = ti) (h0o : f0.offset = 0) (h1t : f1.type = ti) (h1o : f1.offset = 1) (hi : P.underlying ti = some (.int .i64)) (hci : P.cellsOf ti = 1) (hce : P.cellsOf e = 2)
    (h : DataW.trod enc P w base spare held fuel t cs = some (.agg [.agg [.lit (.int .i64 a0), .lit (.int .i64 b0)], .agg [.lit (.int .i64 a1), .lit (.int .i64 b1)], .agg [.lit (.int .i64 a2), .lit (.int .i64 b2)], .agg [.lit (.int .i64 a3), .lit (.int .i64 b3)]], p)) :
    (cs[0]? = some (.int .i64 a0) ∧ cs[1]? = some (.int .i64 b0)) ∧ (cs[2]? = some (.int .i64 a1) ∧ cs[3]? = some (.int .i64 b1)) ∧ (cs[4]? = some (.int .i64 a2) ∧ cs[5]? = some (.int .i64 b2)) ∧ (cs[6]? = some (.int .i64 a3) ∧ cs[7]? = some (.int .i64 b3)) := by
  obtain ⟨xs, m, rfl, hx, hl, hxl, hf⟩ := DataW.trod_array ht h
  rw [hce] at hf
  have k0 := hf 0 (by omega)
  have k1 := hf 1 (by omega)
  have k2 := hf 2 (by omega)
  have k3 := hf 3 (by omega)
  obtain ⟨y0, y1, y2, y3, rfl⟩ : ∃ y0 y1 y2 y3, xs = [y0, y1, y2, y3] := by
    rcases xs with _ | ⟨y0, _ | ⟨y1, _ | ⟨y2, _ | ⟨y3, _ | ⟨y4, ys⟩⟩⟩⟩⟩ <;> simp at hxl
    exact ⟨y0, y1, y2, y3, rfl⟩
  obtain ⟨d0, p0⟩ := y0
  obtain ⟨d1, p1⟩ := y1
  obtain ⟨d2, p2⟩ := y2
  obtain ⟨d3, p3⟩ := y3
  simp at hx
  obtain ⟨⟨rfl, rfl, rfl, rfl⟩, _⟩ := hx
  have j0 := pair_of_trod he h0t h0o h1t h1o hi hci (k0.trans rfl)
  have j1 := pair_of_trod he h0t h0o h1t h1o hi hci (k1.trans rfl)
  have j2 := pair_of_trod he h0t h0o h1t h1o hi hci (k2.trans rfl)
  have j3 := pair_of_trod he h0t h0o h1t h1o hi hci (k3.trans rfl)
  simp [List.getElem?_take, List.getElem?_drop] at j0 j1 j2 j3
  exact ⟨j0, j1, j2, j3⟩

/-- Two ints and a number of 32 bits, read: their three cells. -/
theorem triple_of_trod {cs : List Value} {a b c : Int} {p : List MemPlace} (he : P.underlying e = some (.struct #[f0, f1, f2])) (h0t : f0.type = ti) (h0o : f0.offset = 0) (h1t : f1.type = ti) (h1o : f1.offset = 1) (h2t : f2.type = tu) (h2o : f2.offset = 2) (hi : P.underlying ti = some (.int .i64)) (hu : P.underlying tu = some (.int .u32)) (hci : P.cellsOf ti = 1) (hcu : P.cellsOf tu = 1)
    (h : DataW.trod enc P w base spare held fuel e cs = some (.agg [.lit (.int .i64 a), .lit (.int .i64 b), .lit (.int .u32 c)], p)) : cs[0]? = some (.int .i64 a) ∧ cs[1]? = some (.int .i64 b) ∧ cs[2]? = some (.int .u32 c) := by
  obtain ⟨ys, n, rfl, hx, hl, hyl, hf⟩ := DataW.trod_struct he h
  have k0 := hf 0 f0 rfl
  have k1 := hf 1 f1 rfl
  have k2 := hf 2 f2 rfl
  rw [h0t, h0o, hci] at k0
  rw [h1t, h1o, hci] at k1
  rw [h2t, h2o, hcu] at k2
  obtain ⟨y0, y1, y2, rfl⟩ : ∃ y0 y1 y2, ys = [y0, y1, y2] := by
    rcases ys with _ | ⟨y0, _ | ⟨y1, _ | ⟨y2, _ | ⟨y3, ys⟩⟩⟩⟩ <;> simp at hyl
    exact ⟨y0, y1, y2, rfl⟩
  obtain ⟨m0, e0, rfl, _⟩ := DataW.trod_int hi (k0.trans rfl)
  obtain ⟨m1, e1, rfl, _⟩ := DataW.trod_int hi (k1.trans rfl)
  obtain ⟨m2, e2, rfl, _⟩ := DataW.trod_int hu (k2.trans rfl)
  simp at hx
  obtain ⟨⟨rfl, rfl, rfl⟩, _⟩ := hx
  refine ⟨?_, ?_, ?_⟩
  · have := congrArg (·[0]?) e0
    simpa using this
  · have := congrArg (·[0]?) e1
    simpa using this
  · have := congrArg (·[0]?) e2
    simpa using this

/-- Three of them, read: their nine cells. -/
theorem triples3_of_trod {cs : List Value} {a0 b0 c0 a1 b1 c1 a2 b2 c2 : Int} {p : List MemPlace} (ht : P.underlying t = some (.array 3 e)) (he : P.underlying e = some (.struct #[f0, f1, f2])) (h0t : f0.type = ti) (h0o : f0.offset = 0) (h1t : f1.type = ti) (h1o : f1.offset = 1) (h2t : f2.type = tu) (h2o : f2.offset = 2) (hi : P.underlying ti = some (.int .i64)) (hu : P.underlying tu = some (.int .u32)) (hci : P.cellsOf ti = 1) (hcu : P.cellsOf tu = 1) (hce : P.cellsOf e = 3)
    (h : DataW.trod enc P w base spare held fuel t cs = some (.agg [.agg [.lit (.int .i64 a0), .lit (.int .i64 b0), .lit (.int .u32 c0)], .agg [.lit (.int .i64 a1), .lit (.int .i64 b1), .lit (.int .u32 c1)], .agg [.lit (.int .i64 a2), .lit (.int .i64 b2), .lit (.int .u32 c2)]], p)) :
    (cs[0]? = some (.int .i64 a0) ∧ cs[1]? = some (.int .i64 b0) ∧ cs[2]? = some (.int .u32 c0)) ∧ (cs[3]? = some (.int .i64 a1) ∧ cs[4]? = some (.int .i64 b1) ∧ cs[5]? = some (.int .u32 c1)) ∧ (cs[6]? = some (.int .i64 a2) ∧ cs[7]? = some (.int .i64 b2) ∧ cs[8]? = some (.int .u32 c2)) := by
  obtain ⟨xs, m, rfl, hx, hl, hxl, hf⟩ := DataW.trod_array ht h
  rw [hce] at hf
  have k0 := hf 0 (by omega)
  have k1 := hf 1 (by omega)
  have k2 := hf 2 (by omega)
  obtain ⟨y0, y1, y2, rfl⟩ : ∃ y0 y1 y2, xs = [y0, y1, y2] := by
    rcases xs with _ | ⟨y0, _ | ⟨y1, _ | ⟨y2, _ | ⟨y3, ys⟩⟩⟩⟩ <;> simp at hxl
    exact ⟨y0, y1, y2, rfl⟩
  obtain ⟨d0, p0⟩ := y0
  obtain ⟨d1, p1⟩ := y1
  obtain ⟨d2, p2⟩ := y2
  simp at hx
  obtain ⟨⟨rfl, rfl, rfl⟩, _⟩ := hx
  have j0 := triple_of_trod he h0t h0o h1t h1o h2t h2o hi hu hci hcu (k0.trans rfl)
  have j1 := triple_of_trod he h0t h0o h1t h1o h2t h2o hi hu hci hcu (k1.trans rfl)
  have j2 := triple_of_trod he h0t h0o h1t h1o h2t h2o hi hu hci hcu (k2.trans rfl)
  simp [List.getElem?_take, List.getElem?_drop] at j0 j1 j2
  exact ⟨j0, j1, j2⟩

theorem eid_of_trod {cs : List Value} {x : DataW H × List MemPlace} (he : P.underlying e = some (.struct #[f0, f1, f2, f3, f4])) (h0t : f0.type = ti) (h0o : f0.offset = 0) (h1t : f1.type = ts) (h1o : f1.offset = 1) (h2t : f2.type = ts) (h2o : f2.offset = 2) (h3t : f3.type = ti) (h3o : f3.offset = 3) (h4t : f4.type = ti) (h4o : f4.offset = 4)
    (hi : P.underlying ti = some (.int .i64)) (hs : P.underlying ts = some .string) (hci : P.cellsOf ti = 1) (hcs : P.cellsOf ts = 1) (hlen : cs.length = 5)
    (h : DataW.trod enc P w base spare held fuel e cs = some x) :
    ∃ (k : Int) (nd sv : ByteArray) (a b : Int), cs = [.int .i64 k, .string nd, .string sv, .int .i64 a, .int .i64 b] ∧ x.2 = [] ∧ (Lit.int .i64 a).wf = true ∧ (Lit.int .i64 b).wf = true ∧ nd.size ≤ maxLen ∧ sv.size ≤ maxLen := by
  obtain ⟨ys, n, rfl, hx, hl, hyl, hf⟩ := DataW.trod_struct he h
  obtain ⟨c0, c1, c2, c3, c4, rfl⟩ : ∃ c0 c1 c2 c3 c4, cs = [c0, c1, c2, c3, c4] := by
    rcases cs with _ | ⟨c0, _ | ⟨c1, _ | ⟨c2, _ | ⟨c3, _ | ⟨c4, _ | ⟨c5, cs⟩⟩⟩⟩⟩⟩ <;> simp at hlen
    exact ⟨c0, c1, c2, c3, c4, rfl⟩
  have k0 := hf 0 f0 rfl
  have k1 := hf 1 f1 rfl
  have k2 := hf 2 f2 rfl
  have k3 := hf 3 f3 rfl
  have k4 := hf 4 f4 rfl
  rw [h0t, h0o, hci] at k0
  rw [h1t, h1o, hcs] at k1
  rw [h2t, h2o, hcs] at k2
  rw [h3t, h3o, hci] at k3
  rw [h4t, h4o, hci] at k4
  obtain ⟨y0, y1, y2, y3, y4, rfl⟩ : ∃ y0 y1 y2 y3 y4, ys = [y0, y1, y2, y3, y4] := by
    rcases ys with _ | ⟨y0, _ | ⟨y1, _ | ⟨y2, _ | ⟨y3, _ | ⟨y4, _ | ⟨y5, ys⟩⟩⟩⟩⟩⟩ <;> simp at hyl
    exact ⟨y0, y1, y2, y3, y4, rfl⟩
  obtain ⟨m0, e0, rfl, w0⟩ := DataW.trod_int hi (k0.trans rfl)
  obtain ⟨m1, e1, rfl, w1⟩ := DataW.trod_string hs (k1.trans rfl)
  obtain ⟨m2, e2, rfl, w2⟩ := DataW.trod_string hs (k2.trans rfl)
  obtain ⟨m3, e3, rfl, w3⟩ := DataW.trod_int hi (k3.trans rfl)
  obtain ⟨m4, e4, rfl, w4⟩ := DataW.trod_int hi (k4.trans rfl)
  simp at e0 e1 e2 e3 e4
  subst e0 e1 e2 e3 e4
  refine ⟨m0, m1, m2, m3, m4, rfl, ?_, w3, w4, w1, w2⟩
  rw [hx]
  simp

end

/-- A row whose calls start from what is laid, at a world of its shape. -/
theorem handed_laid {H : Type} {enc : TypeId × Value → H} {C : Checked} {os : Os} {f : FuncId} {fn : Func} {sp : ChangeSpec} {conds : List PathCond} {apart fresh handsOn again : Bool} {L : List (String × DataW Unit)}
    (own : ownKnob C.prog.godebug = none) (started : os.Started) (noInit : C.prog.inits.idxOf? f = none) (hfn : C.prog.funcs[f]? = some fn)
    (witness : ∃ (w : World) (tape : Tape) (i : Input), w.os = os ∧ (w.forCall tape i).Shaped C.prog ∧ i.vars = [] ∧ Input.okWide C.prog (w.forCall tape i) .any w.heap.size f i ∧
      ((sp.pre enc C.prog fn conds apart (w.forCall tape i).memory i.args ∧ laidMetH C.prog L (w.forCall tape i).memory) ∧ sizedMet enc C.prog fn (OpenSpec.ofChange sp) apart (w.forCall tape i).memory i.args) ∧ ({} : Assume).holds C.prog (lone (Frame.enter C.prog f i.args .normal) [] (w.forCall tape i)))
    (calls : ∀ (W : World) (base : Nat) (args : Array Value) (ds gs : List (DataW H)) (before : List MemPlace),
      (∀ (j : Nat) t v, fn.params[j]? = some t → args[j]? = some v → Value.okWide C.prog W .any base t v) →
      DataW.Whole enc C.prog fn.params.toList sp.vars apart W args.toList ds gs before →
      laidMetH C.prog L W → W.ShapedOpen C.prog →
      Calls C.prog f args W fun e W' => ∃ v, e = .returned v ∧ sp.post enc C.prog fn apart fresh handsOn again W args v W') :
    ReturnsInHanded {} C os f .any (fun w args => (sp.pre enc C.prog fn conds apart w args ∧ laidMetH C.prog L w) ∧ sizedMet enc C.prog fn (OpenSpec.ofChange sp) apart w args) (sp.post enc C.prog fn apart fresh handsOn again) := by
  refine returnsInHanded_of_calls own started noInit witness ?_
  rintro w tape i _ hsh _ ⟨_, _, _, fn', hfn', _, _, _, _, hval⟩ ⟨⟨⟨ds, gs, before, hw, _⟩, hx⟩, _⟩ _
  obtain rfl : fn' = fn := Option.some.inj (hfn'.symm.trans hfn)
  refine (calls (w.forCall tape i) w.heap.size i.args ds gs before hval (DataW.Whole.of_heap (w' := w.forCall tape i) (by rfl) hw) (laidMetH.of_heap (by rfl) hx) hsh).mono fun e W' h => ?_
  obtain ⟨v, rfl, hp⟩ := h
  exact ChangeSpec.post_blind hp

end Go.Proofs.YtmbmolgkccjedaaGreatDoor
