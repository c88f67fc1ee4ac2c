/- A name that came in; what bytealg.MaxLen holds. -/
import Derived.Test.YtmpokhdljlnllaaDoorEHand
import Derived.Test.YtmpokhdljlnllaaDoorETextsW
import Derived.Shelf.Vars
set_option linter.unusedVariables false
set_option linter.unusedSimpArgs false
namespace Go.Proofs.YtmpokhdljlnllaaDoor
open Go.ChangeShapes Go.WideShapes Go.ChangeAt Go.WideMaps Go.WideElems Go.RowKit

theorem laidOut : laidOutB Tryd.prog = true := by kernel_rfl
theorem cellsInt : Tryd.prog.cellsOf 3 = 1 := by kernel_rfl
theorem cellsEid : Tryd.prog.cellsOf 23 = 5 := by kernel_rfl

theorem maxlen_of_shaped {W : World} (h : W.ShapedOpen Tryd.prog) : ∃ m : Int, W.cell? ⟨0, 0, none⟩ = some (.int .i64 m) :=
  cell_of_shapedOpen_int (t := 3) (zero := #[.int .i64 0]) (k := .i64) h (of_decide_eq_true (by kernel_rfl)) (by kernel_rfl) rfl (by kernel_rfl) (by kernel_rfl) Tryd.underlying3

section
variable {H : Type} {enc : TypeId × Value → H} {P : Program} {w : World} {base : Nat} {spare : Nat → Bool} {held : Bool} {fuel : Nat} {e ti ts : TypeId} {f0 f1 f2 f3 f4 : Field}
theorem eid_of_trod {cs : List Value} {x : DataW H × List MemPlace} (he : P.underlying e = some (.struct #[f0, f1, f2, f3, f4])) (h0t : f0.type = ti) (h0o : f0.offset = 0) (h1t : f1.type = ts) (h1o : f1.offset = 1) (h2t : f2.type = ts) (h2o : f2.offset = 2) (h3t : f3.type = ti) (h3o : f3.offset = 3) (h4t : f4.type = ti) (h4o : f4.offset = 4)
    (hi : P.underlying ti = some (.int .i64)) (hs : P.underlying ts = some .string) (hci : P.cellsOf ti = 1) (hcs : P.cellsOf ts = 1) (hlen : cs.length = 5)
    (h : DataW.trod enc P w base spare held fuel e cs = some x) :
    ∃ (k : Int) (nd sv : ByteArray) (a b : Int), cs = [.int .i64 k, .string nd, .string sv, .int .i64 a, .int .i64 b] ∧ x.2 = [] ∧ (Lit.int .i64 a).wf = true ∧ (Lit.int .i64 b).wf = true ∧ nd.size ≤ maxLen ∧ sv.size ≤ maxLen := by
  obtain ⟨ys, n, rfl, hx, hl, hyl, hf⟩ := DataW.trod_struct he h
  obtain ⟨c0, c1, c2, c3, c4, rfl⟩ : ∃ c0 c1 c2 c3 c4, cs = [c0, c1, c2, c3, c4] := by
    rcases cs with _ | ⟨c0, _ | ⟨c1, _ | ⟨c2, _ | ⟨c3, _ | ⟨c4, _ | ⟨c5, cs⟩⟩⟩⟩⟩⟩ <;> simp at hlen
    exact ⟨c0, c1, c2, c3, c4, rfl⟩
  have k0 := hf 0 f0 rfl
  have k1 := hf 1 f1 rfl
  have k2 := hf 2 f2 rfl
  have k3 := hf 3 f3 rfl
  have k4 := hf 4 f4 rfl
  rw [h0t, h0o, hci] at k0
  rw [h1t, h1o, hcs] at k1
  rw [h2t, h2o, hcs] at k2
  rw [h3t, h3o, hci] at k3
  rw [h4t, h4o, hci] at k4
  obtain ⟨y0, y1, y2, y3, y4, rfl⟩ : ∃ y0 y1 y2 y3 y4, ys = [y0, y1, y2, y3, y4] := by
    rcases ys with _ | ⟨y0, _ | ⟨y1, _ | ⟨y2, _ | ⟨y3, _ | ⟨y4, _ | ⟨y5, ys⟩⟩⟩⟩⟩⟩ <;> simp at hyl
    exact ⟨y0, y1, y2, y3, y4, rfl⟩
  obtain ⟨m0, e0, rfl, w0⟩ := DataW.trod_int hi (k0.trans rfl)
  obtain ⟨m1, e1, rfl, w1⟩ := DataW.trod_string hs (k1.trans rfl)
  obtain ⟨m2, e2, rfl, w2⟩ := DataW.trod_string hs (k2.trans rfl)
  obtain ⟨m3, e3, rfl, w3⟩ := DataW.trod_int hi (k3.trans rfl)
  obtain ⟨m4, e4, rfl, w4⟩ := DataW.trod_int hi (k4.trans rfl)
  simp at e0 e1 e2 e3 e4
  subst e0 e1 e2 e3 e4
  refine ⟨m0, m1, m2, m3, m4, rfl, ?_, w3, w4, w1, w2⟩
  rw [hx]
  simp
end

set_option maxRecDepth 100000 in
/-- A name that came in. -/
theorem open_eidT {H : Type} {enc : TypeId × Value → H} {W : World} {r : Reach} {b0 : Nat} {v : Value} {d : DataW H} {ps : List MemPlace} (hval : Value.okWide Tryd.prog W r b0 23 v) (hd : DataW.Trod enc Tryd.prog W 0 (fun _ => true) true 23 v d ps) :
    ∃ (k : Int) (nd sv : ByteArray) (a b : Int), v = nmV k nd sv a b ∧ ps = [] ∧ I64 a ∧ I64 b ∧ nd.size ≤ maxLen ∧ sv.size ≤ maxLen := by
  obtain ⟨fuel, hf⟩ := hd
  obtain ⟨cs, rfl, hsz⟩ := okWide_struct Tryd.underlying23 hval
  rw [cellsEid] at hsz
  obtain ⟨k, nd, sv, a, b, e, hp, wa, wb, h1, h2⟩ := eid_of_trod (cs := cs.toList) Tryd.underlying23 rfl rfl rfl rfl rfl rfl rfl rfl rfl rfl Tryd.underlying3 Tryd.underlying9 cellsInt cellsStr (Array.length_toList.trans hsz) hf
  refine ⟨k, nd, sv, a, b, ?_, hp, bounds_i64 wa, bounds_i64 wb, h1, h2⟩
  rw [show cs = #[.int .i64 k, .string nd, .string sv, .int .i64 a, .int .i64 b] from Array.ext' e]
  rfl
end Go.Proofs.YtmpokhdljlnllaaDoor
