/- A list of calls that came in, as it reads. -/
import Derived.Test.YtpafpmefhfmndaaDoorKFrame
import Derived.Deep.Slices
import Derived.Laws.AppendOwn
set_option linter.unusedVariables false
set_option linter.unusedSimpArgs false
namespace Go.Proofs.YtpafpmefhfmndaaDoor
open Go.ChangeShapes Go.WideShapes Go.ChangeAt Go.WideMaps Go.WideElems Go.RowKit

theorem cellsInt : Tryd.prog.cellsOf 3 = 1 := by kernel_rfl
theorem cellsOp : Tryd.prog.cellsOf 37 = 4 := by kernel_rfl
theorem kadd_block (a : Addr) (i : Nat) : (a.add i).block = a.block := by unfold Addr.add; split <;> rfl
theorem kadd_pos (A : Addr) (i : Nat) (h : i ≠ 0) : A.add i = ⟨A.block, A.off + i, none⟩ := by unfold Addr.add; rw [if_neg h]

section
variable {H : Type} {enc : TypeId × Value → H} {P : Program} {w : World} {base : Nat} {spare : Nat → Bool} {held : Bool} {fuel : Nat} {e ti ts : TypeId} {f0 f1 f2 f3 : Field}
/-- A call, read: its four cells. -/
theorem op_of_trod {cs : List Value} {x : DataW H × List MemPlace} (he : P.underlying e = some (.struct #[f0, f1, f2, f3])) (h0t : f0.type = ti) (h0o : f0.offset = 0) (h1t : f1.type = ti) (h1o : f1.offset = 1) (h2t : f2.type = ti) (h2o : f2.offset = 2) (h3t : f3.type = ts) (h3o : f3.offset = 3)
    (hi : P.underlying ti = some (.int .i64)) (hs : P.underlying ts = some .string) (hci : P.cellsOf ti = 1) (hcs : P.cellsOf ts = 1) (hlen : cs.length = 4)
    (h : DataW.trod enc P w base spare held fuel e cs = some x) :
    ∃ z : OpR, cs = [.int .i64 z.k, .int .i64 z.a, .int .i64 z.b, .string z.s] ∧ x.2 = [] ∧ (Lit.int .i64 z.a).wf = true ∧ (Lit.int .i64 z.b).wf = true ∧ z.s.size ≤ maxLen := by
  obtain ⟨ys, n, rfl, hx, hl, hyl, hf⟩ := DataW.trod_struct he h
  obtain ⟨c0, c1, c2, c3, rfl⟩ : ∃ c0 c1 c2 c3, cs = [c0, c1, c2, c3] := by
    rcases cs with _ | ⟨c0, _ | ⟨c1, _ | ⟨c2, _ | ⟨c3, _ | ⟨c4, cs⟩⟩⟩⟩⟩ <;> simp at hlen
    exact ⟨c0, c1, c2, c3, rfl⟩
  have k0 := hf 0 f0 rfl
  have k1 := hf 1 f1 rfl
  have k2 := hf 2 f2 rfl
  have k3 := hf 3 f3 rfl
  rw [h0t, h0o, hci] at k0
  rw [h1t, h1o, hci] at k1
  rw [h2t, h2o, hci] at k2
  rw [h3t, h3o, hcs] at k3
  obtain ⟨y0, y1, y2, y3, rfl⟩ : ∃ y0 y1 y2 y3, ys = [y0, y1, y2, y3] := by
    rcases ys with _ | ⟨y0, _ | ⟨y1, _ | ⟨y2, _ | ⟨y3, _ | ⟨y4, ys⟩⟩⟩⟩⟩ <;> simp at hyl
    exact ⟨y0, y1, y2, y3, rfl⟩
  obtain ⟨m0, e0, rfl, w0⟩ := DataW.trod_int hi (k0.trans rfl)
  obtain ⟨m1, e1, rfl, w1⟩ := DataW.trod_int hi (k1.trans rfl)
  obtain ⟨m2, e2, rfl, w2⟩ := DataW.trod_int hi (k2.trans rfl)
  obtain ⟨m3, e3, rfl, w3⟩ := DataW.trod_string hs (k3.trans rfl)
  simp at e0 e1 e2 e3
  subst e0 e1 e2 e3
  refine ⟨⟨m0, m1, m2, m3⟩, rfl, ?_, w1, w2, w3⟩
  rw [hx]
  simp
end

/-- Things known one by one, as a list. -/
theorem list_of {α : Type} (n : Nat) (p : Nat → α → Prop) (h : ∀ j, j < n → ∃ x, p j x) : ∃ l : List α, l.length = n ∧ ∀ j x, l[j]? = some x → p j x := by
  induction n with
  | zero => exact ⟨[], rfl, fun j x e => by simp at e⟩
  | succ n ih =>
    obtain ⟨l, hl, hp⟩ := ih (fun j hj => h j (by omega))
    obtain ⟨x, hx⟩ := h n (by omega)
    refine ⟨l ++ [x], by simp [hl], fun j y e => ?_⟩
    by_cases hj : j < n
    · rw [List.getElem?_append_left (by omega)] at e
      exact hp j y e
    · rw [List.getElem?_append_right (by omega)] at e
      have h0 : j - l.length = 0 := by
        rcases Nat.eq_zero_or_pos (j - l.length) with h0 | h0
        · exact h0
        · rw [List.getElem?_eq_none (by simp; omega)] at e; cases e
      rw [h0] at e
      obtain rfl : x = y := by simpa using e
      obtain rfl : j = n := by omega
      exact hx

set_option maxRecDepth 100000 in
set_option maxHeartbeats 1000000 in
/-- A list of calls that came in. -/
theorem open_opsT {H : Type} {enc : TypeId × Value → H} {W : World} {r : Reach} {b0 : Nat} {v : Value} {d : DataW H} {ps : List MemPlace} (hval : Value.okWide Tryd.prog W r b0 22 v) (hd : DataW.Trod enc Tryd.prog W 0 (fun _ => true) true 22 v d ps) :
    ∃ (A : Option Addr) (c : Nat) (xs : List OpR), v = .slice A xs.length c ∧ OpsIn W A xs ∧ xs.length ≤ maxLen ∧ ∀ x ∈ ps, x.block < W.heap.size := by
  obtain ⟨a, len, cap, rfl⟩ := okWide_slice Tryd.underlying22 hval
  obtain ⟨fuel, hf⟩ := hd
  rcases Go.Deep.open_slice Tryd.underlying22 hf with ⟨hcs, hx⟩ | ⟨a', len', cap', m, n, D, Pl, hcs, _, hle, hm, hmm, hx, hel⟩
  · simp [Value.cells] at hcs
    obtain ⟨rfl, rfl, rfl⟩ := hcs
    have : ps = [] := by injection hx
    subst this
    exact ⟨none, 0, [], rfl, fun j x e => by simp at e, Nat.zero_le _, by simp⟩
  · simp [Value.cells] at hcs
    obtain ⟨rfl, rfl, rfl⟩ := hcs
    rw [if_pos rfl] at hmm
    subst hmm
    rw [cellsOp] at hx hel
    have hps : ps = MemPlace.row a' (m * 4) ++ (List.range m).flatMap Pl := by injection hx
    subst hps
    have each : ∀ j, j < m → ∃ z : OpR, (W.cell? (a'.add (j * 4)) = some (.int .i64 z.k) ∧ W.cell? ⟨(a'.add (j * 4)).block, (a'.add (j * 4)).off + 1, none⟩ = some (.int .i64 z.a) ∧ W.cell? ⟨(a'.add (j * 4)).block, (a'.add (j * 4)).off + 2, none⟩ = some (.int .i64 z.b) ∧ W.cell? ⟨(a'.add (j * 4)).block, (a'.add (j * 4)).off + 3, none⟩ = some (.string z.s)) ∧ z.a ≤ 9223372036854775807 ∧ z.b ≤ 9223372036854775807 ∧ z.s.size ≤ maxLen ∧ Pl j = [] := by
      intro j hj
      obtain ⟨cs', h1, h2⟩ := hel j hj
      obtain ⟨_, hl4, hc⟩ := World.cells?_some h1
      obtain ⟨z, rfl, hp, wa, wb, hz⟩ := op_of_trod Tryd.underlying37 rfl rfl rfl rfl rfl rfl rfl rfl Tryd.underlying3 Tryd.underlying9 cellsInt cellsStr hl4 h2
      have q0 := hc 0 (by omega)
      have q1 := hc 1 (by omega)
      have q2 := hc 2 (by omega)
      have q3 := hc 3 (by omega)
      rw [Go.Deep.add_add] at q0
      rw [kadd_pos _ _ (by decide)] at q1 q2 q3
      exact ⟨z, ⟨q0, q1, q2, q3⟩, (bounds_i64 wa).2, (bounds_i64 wb).2, hz, hp⟩
    obtain ⟨l, hll, hl⟩ := list_of len _ (fun j hj => each j (by omega))
    refine ⟨some a', m, l, by rw [hll], fun j x e => ?_, by omega, ?_⟩
    · obtain ⟨q, za, zb, zs, _⟩ := hl j x e
      exact ⟨a', rfl, q, za, zb, zs⟩
    · intro x hx
      rcases List.mem_append.1 hx with hx | hx
      · obtain ⟨i, hi, rfl⟩ := MemPlace.mem_row.1 hx
        obtain ⟨z, ⟨q0, _⟩, _⟩ := each 0 (by omega)
        have h1 := World.block_lt_of_cell? _ _ q0
        rw [kadd_block] at h1
        simpa [MemPlace.block] using h1
      · obtain ⟨j, hj, hpy⟩ := List.mem_flatMap.1 hx
        obtain ⟨z, _, _, _, _, hp⟩ := each j (List.mem_range.1 hj)
        rw [hp] at hpy
        cases hpy
end Go.Proofs.YtpafpmefhfmndaaDoor
