/- What the statements' walks of package 17 begin with: a record in its box, its copy that goes to Cut. -/
import Derived.Test.YtdlkmdjhjdpmeaaGreatDoorFShown
import Derived.Test.YtdlkmdjhjdpmeaaGreatDoorFRefE
import Derived.Test.YtdlkmdjhjdpmeaaGreatDoorFRefS
set_option linter.unusedVariables false
set_option linter.unusedSimpArgs false
namespace Go.Proofs.YtdlkmdjhjdpmeaaGreatDoor
open Go.RowKit

/-- The row of one that goes to Cut. -/
theorem rec_row (r : Rc) (w : World) (hs : r.data.size ≤ maxLen) : RcsIn (w.alloc (.cells #[.int .i64 r.op, .int .i64 r.id, .string r.data] 23)) (some ⟨w.heap.size, 0, none⟩) [r] := by
  have h2 : Blk (w.alloc (.cells #[.int .i64 r.op, .int .i64 r.id, .string r.data] 23)) w.heap.size 23 #[.int .i64 r.op, .int .i64 r.id, .string r.data] := heap_alloc_new w _
  intro j x e
  rcases j with _ | j
  · obtain rfl : r = x := by simpa using e
    refine ⟨_, rfl, ⟨?_, ?_, ?_⟩, hs⟩
    · rw [Nat.zero_mul, Addr.add_mid]; exact h2.cell 0
    · rw [Nat.zero_mul, Addr.add_mid]; exact h2.cell 1
    · rw [Nat.zero_mul, Addr.add_mid]; exact h2.cell 2
  · simp at e
theorem rec_len (r : Rc) : [r].length ≤ maxLen := by unfold maxLen; simp
theorem cuts_one (r : Rc) : cutsC [r] = [cutC r] := rfl
theorem rec_new (r : Rc) (w : World) : Blk (w.alloc (.cells #[.int .i64 r.op, .int .i64 r.id, .string r.data] 23)) w.heap.size 23 #[.int .i64 r.op, .int .i64 r.id, .string r.data] := heap_alloc_new w _
theorem below_new (w : World) (o : Obj) : Below w.heap.size w (w.alloc o) := (Below.refl _ w).alloc (Nat.le_refl _) _
/-- A box's three cells. -/
theorem Blk.three {w : World} {B : Nat} {t : TypeId} {x y z : Value} (h : Blk w B t #[x, y, z]) : w.cell? ⟨B, 0, none⟩ = some x ∧ w.cell? ⟨B, 1, none⟩ = some y ∧ w.cell? ⟨B, 2, none⟩ = some z := ⟨h.cell 0, h.cell 1, h.cell 2⟩
/-- The box with the record cut. -/
theorem rec_box {w w1 : World} {a b c x y z : Value} (hx : Blk w1 w.heap.size 23 #[a, b, c]) (hb : Below w.heap.size w w1) :
    Blk (((w1.setCell ⟨w.heap.size, 0, none⟩ x).setCell ⟨w.heap.size, 1, none⟩ y).setCell ⟨w.heap.size, 2, none⟩ z) w.heap.size 23 #[x, y, z] ∧ Below w.heap.size w (((w1.setCell ⟨w.heap.size, 0, none⟩ x).setCell ⟨w.heap.size, 1, none⟩ y).setCell ⟨w.heap.size, 2, none⟩ z) :=
  ⟨hx.set3 x y z, ((hb.setCell (Nat.le_refl _) _).setCell (Nat.le_refl _) _).setCell (Nat.le_refl _) _⟩
theorem eq_bool (u : Bool) (w : World) : (binOp .eql 4 (.bool u) (.bool u)).run Tryz.prog w = .ok (.bool true) w := by
  cases u <;> kernel_rfl
theorem eq_str (s : ByteArray) (w : World) : (binOp .eql 9 (.string s) (.string s)).run Tryz.prog w = .ok (.bool true) w := by
  go_simp
theorem eq_rec (op id : Int) (data : ByteArray) (w : World) : (binOp .eql 23 (.agg #[.int .i64 op, .int .i64 id, .string data]) (.agg #[.int .i64 op, .int .i64 id, .string data])).run Tryz.prog w = .ok (.bool true) w := by
  go_simp
theorem enc_no {r : Rc} (h : rcB r = false) : fencR r = (⟨#[]⟩, 170) := by
  unfold fencR; rw [h]; rfl
theorem enc_yes {r : Rc} (h : rcB r = true) : fencR r = (⟨(frL r).toArray⟩, 0) := by
  unfold fencR; rw [h]; rfl
theorem frS_size (r : Rc) : (⟨(frL r).toArray⟩ : ByteArray).size = 14 + r.data.size := by
  rw [← frL_length]; simp [ByteArray.size]
theorem frS_le {r : Rc} (h : rcB r = true) : (⟨(frL r).toArray⟩ : ByteArray).size ≤ 1000000 := by
  rw [frS_size]
  obtain ⟨p, i, _, _, _, _, _, hd⟩ := rcB_iff.1 h
  omega
theorem frS_dec {r : Rc} (h : rcB r = true) : decR ⟨(frL r).toArray⟩ 0 = (r, 14 + (r.data.size : Int), true) := by
  have h1 := decR_some (decO_some.2 (⟨Int.le_refl 0, h, by simp⟩ : FrAt ⟨(frL r).toArray⟩ 0 r))
  rw [h1, Int.zero_add]
end Go.Proofs.YtdlkmdjhjdpmeaaGreatDoor
