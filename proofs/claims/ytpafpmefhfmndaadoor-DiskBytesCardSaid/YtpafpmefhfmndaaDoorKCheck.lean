/- Contract of check of package disk, for any rules: what is wrong by the first one that does not hold. -/
import Derived.Test.YtpafpmefhfmndaaDoorKSmall
set_option linter.unusedVariables false
set_option linter.unusedSimpArgs false
namespace Go.Proofs.YtpafpmefhfmndaaDoor
open Go.RowKit Go.Extern.Stop Go.Stop Go.Extern

/-- Rules lie in the block b, one behind the other. -/
def Rules (w : World) (b : Nat) (rs : List (Bool × Int)) : Prop := ∀ j r, rs[j]? = some r → w.cell? ⟨b, j * 2, none⟩ = some (.bool r.1) ∧ w.cell? ⟨b, j * 2 + 1, none⟩ = some (.int .i64 r.2)
theorem Rules.below {w w' : World} {b : Nat} {rs : List (Bool × Int)} (h : Rules w b rs) (hb : Below w.heap.size w w') : Rules w' b rs := fun j r e => by
  obtain ⟨h1, h2⟩ := h j r e
  exact ⟨(hb.cell (World.block_lt_of_cell? _ _ h1)).trans h1, (hb.cell (World.block_lt_of_cell? _ _ h2)).trans h2⟩

theorem firstBad_hold : ∀ (rs : List (Bool × Int)) (k : Nat), (∀ r ∈ rs.take k, r.1 = true) → firstBad rs = firstBad (rs.drop k)
  | [], k, _ => by simp
  | r :: t, 0, _ => rfl
  | (p, n) :: t, k + 1, h => by
    have hp : p = true := h (p, n) (by simp)
    subst hp
    rw [List.drop_succ_cons]
    exact firstBad_hold t k (fun x hx => h x (by simp [hx]))

set_option maxRecDepth 100000 in
set_option maxHeartbeats 2000000 in
theorem check_any (call : ByteArray) (b cap : Nat) (rs : List (Bool × Int)) (w : World) (hl : rs.length ≤ 10) (hr : Rules w b rs) :
    Calls Tryd.prog 38 #[.string call, .slice (some ⟨b, 0, none⟩) rs.length cap] w fun e w' => e = .returned (wrongV call (firstBad rs)) ∧ Below w.heap.size w w' := by
  have HR := Lib.hid hr
  clear hr
  go_enter Tryd.func38, Tryd.ntmps38
  go_wp2
  go_loopw [9] (fun i wr => ∃ k : Nat, k ≤ rs.length ∧ i = .int .i64 k ∧ (∀ r ∈ rs.take k, r.1 = true) ∧ Below w.heap.size w wr) (fun i _ => rs.length - (intOf i).toNat)
  case atStart => exact ⟨0, Nat.zero_le _, rfl, by simp, Below.refl _ _⟩
  case round =>
    obtain ⟨k, hk, rfl, hq, hB⟩ := hrel
    have HQ := Lib.hid hq
    clear hq
    by_cases hlt : k < rs.length
    · have hx := List.getElem?_eq_getElem hlt
      generalize rs[k] = r at hx
      obtain ⟨p, n⟩ := r
      obtain ⟨c0, c1⟩ := (HR.out.below hB) k _ hx
      have HX := Lib.hid hx
      clear hx
      simp only at c0 c1
      cases p with
      | false =>
        go_wp2
        go_ret
        refine ⟨?_, hB.alloc hB.size _⟩
        rw [firstBad_hold rs k HQ.out, List.drop_eq_getElem_cons hlt]
        have e := HX.out
        rw [List.getElem?_eq_getElem hlt] at e
        rw [Option.some.inj e]
        rfl
      | true =>
        go_wp2
        go_roundw
        case rel =>
          refine ⟨k + 1, by omega, by go_num, ?_, hB.alloc hB.size _⟩
          rw [List.take_add_one, HX.out]
          intro y hy
          rcases List.mem_append.1 hy with hy | hy
          · exact HQ.out y hy
          · have : y = (true, n) := by simpa using hy
            subst this
            rfl
        case measure => simp [intOf]; omega
    · obtain rfl : k = rs.length := by omega
      go_wp2
      go_ret
      refine ⟨?_, hB⟩
      rw [firstBad_hold rs rs.length HQ.out, List.drop_length]
      rfl

/-- Rules in a block that is known whole. -/
theorem rules_of_block {w : World} {b : Nat} {t : TypeId} {fr : Nat × Nat} (rs : List (Bool × Int)) (h : w.heap[b]? = some (.cells (rs.flatMap fun r => [Value.bool r.1, Value.int .i64 r.2]).toArray t fr)) : Rules w b rs := by
  have key : ∀ (rs : List (Bool × Int)) (j : Nat) (r : Bool × Int), rs[j]? = some r → (rs.flatMap fun r => [Value.bool r.1, Value.int .i64 r.2])[j * 2]? = some (.bool r.1) ∧ (rs.flatMap fun r => [Value.bool r.1, Value.int .i64 r.2])[j * 2 + 1]? = some (.int .i64 r.2) := by
    intro rs
    induction rs with
    | nil => intro j r e; simp at e
    | cons x t ih =>
      intro j r e
      rcases j with _ | j
      · have : x = r := by simpa using e
        subst this
        simp
      · have := ih j r (by simpa using e)
        rw [List.flatMap_cons, show (j + 1) * 2 = j * 2 + 1 + 1 by omega]
        simpa using this
  intro j r e
  obtain ⟨h1, h2⟩ := key rs j r e
  exact ⟨by rw [cell_of_row w b (j * 2) _ t fr h]; simpa using h1, by rw [cell_of_row w b (j * 2 + 1) _ t fr h]; simpa using h2⟩
end Go.Proofs.YtpafpmefhfmndaaDoor
