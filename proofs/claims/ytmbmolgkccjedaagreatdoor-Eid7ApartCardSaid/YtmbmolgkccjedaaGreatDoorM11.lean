/- What a call on objects at two blocks leaves as it was. -/
import Derived.Test.YtmbmolgkccjedaaGreatDoorChecked
import Derived.WalkKit
import Derived.Lib.Hide
import Derived.Laws.Rows
set_option linter.unusedVariables false
set_option linter.unusedSimpArgs false
namespace Go.Proofs.YtmbmolgkccjedaaGreatDoor
open Go.RowKit

/-- All blocks that were there are as they were, but a and b. -/
structure Only (a b : Nat) (w w' : World) : Prop where
  os : w'.os = w.os
  tape : w'.tape = w.tape
  output : w'.output = w.output
  size : w.heap.size ≤ w'.heap.size
  block : ∀ k, k < w.heap.size → k ≠ a → k ≠ b → w'.heap[k]? = w.heap[k]?

theorem Only.refl (a b : Nat) (w : World) : Only a b w w := ⟨rfl, rfl, rfl, Nat.le_refl _, fun _ _ _ _ => rfl⟩
theorem Only.trans {a b : Nat} {u v w : World} (h : Only a b u v) (k : Only a b v w) : Only a b u w :=
  ⟨k.os.trans h.os, k.tape.trans h.tape, k.output.trans h.output, Nat.le_trans h.size k.size, fun i hi ha hb => (k.block i (Nat.lt_of_lt_of_le hi h.size) ha hb).trans (h.block i hi ha hb)⟩
theorem Only.ofBelow {a b : Nat} {w w' : World} (h : Below w.heap.size w w') : Only a b w w' := ⟨h.os, h.tape, h.output, h.size, fun k hk _ _ => h.block k hk⟩
theorem Only.below {a b : Nat} {u v w : World} (h : Only a b u v) (k : Below v.heap.size v w) : Only a b u w := h.trans (Only.ofBelow k)
theorem Only.setCell {a b : Nat} {u w : World} (h : Only a b u w) {p : Addr} (hp : p.block = a ∨ p.block = b) (x : Value) : Only a b u (w.setCell p x) :=
  h.trans ⟨rfl, rfl, rfl, by simp [World.setCell], fun k _ ha hb => Below.heap_setCell _ _ _ _ (by rcases hp with hp | hp <;> omega)⟩
theorem Only.sa {a b : Nat} {u w : World} (h : Only a b u w) (o : Nat) (x : Value) : Only a b u (w.setCell ⟨a, o, none⟩ x) := h.setCell (p := ⟨a, o, none⟩) (.inl rfl) x
theorem Only.sb {a b : Nat} {u w : World} (h : Only a b u w) (o : Nat) (x : Value) : Only a b u (w.setCell ⟨b, o, none⟩ x) := h.setCell (p := ⟨b, o, none⟩) (.inr rfl) x
theorem Only.alloc {a b : Nat} {u w : World} (h : Only a b u w) (o : Obj) : Only a b u (w.alloc o) := h.below ((Below.refl _ _).alloc (Nat.le_refl _) _)
theorem Only.setCells {a b : Nat} {u : World} : ∀ (vs : List Value) (o : Nat) (w : World), Only a b u w → Only a b u (w.setCells b o vs)
  | [], _, _, h => h
  | v :: r, o, w, h => Only.setCells r (o + 1) _ (h.setCell (p := ⟨b, o, none⟩) (.inr rfl) v)
/-- Below a number that is not greater than both, nothing is changed. -/
theorem Only.toBelow {a b B : Nat} {w0 w w' : World} (h : Only a b w w') (hB : Below B w0 w) (ha : B ≤ a) (hb : B ≤ b) (hs : B ≤ w.heap.size) : Below B w0 w' :=
  hB.trans ⟨h.os, h.tape, h.output, h.size, fun k hk => h.block k (by omega) (by omega) (by omega)⟩
theorem Only.fresh {a b : Nat} {u w : World} (h : Only a b u w) {p : Addr} (hp : u.heap.size ≤ p.block) (x : Value) : Only a b u (w.setCell p x) :=
  ⟨h.os, h.tape, h.output, by simpa [World.setCell] using h.size, fun k hk ha hb => (Below.heap_setCell _ _ _ _ (by omega)).trans (h.block k hk ha hb)⟩
theorem Only.drew {a b : Nat} {u w : World} (h : Only a b u w) : Only a b u w.drew := ⟨h.os, h.tape, h.output, h.size, h.block⟩
theorem Only.heap {a b k : Nat} {w w' : World} (h : Only a b w w') (hk : k < w.heap.size) (ha : k ≠ a) (hb : k ≠ b) : w'.heap[k]? = w.heap[k]? := h.block k hk ha hb
theorem Only.cell {a b : Nat} {w w' : World} (h : Only a b w w') {p : Addr} {v : Value} (hc : w.cell? p = some v) (ha : p.block ≠ a) (hb : p.block ≠ b) : w'.cell? p = some v :=
  (World.cell?_of_block (w := w) (h.block p.block (World.block_lt_of_cell? _ _ hc) ha hb)).trans hc

end Go.Proofs.YtmbmolgkccjedaaGreatDoor

/- A block that is known whole. -/
set_option linter.unusedVariables false
set_option linter.unusedSimpArgs false
namespace Go.Proofs.YtmbmolgkccjedaaGreatDoor
open Go.RowKit

/-- The block g is just these cells, none of them frozen. -/
def Blk (w : World) (g : Nat) (t : TypeId) (cs : Array Value) : Prop := w.heap[g]? = some (.cells cs t (0, 0))
section
variable {w w' : World} {g : Nat} {t : TypeId} {cs : Array Value}
theorem Blk.lt (h : Blk w g t cs) : g < w.heap.size := by
  rcases Nat.lt_or_ge g w.heap.size with hlt | hge
  · exact hlt
  · unfold Blk at h; rw [Array.getElem?_eq_none hge] at h; cases h
theorem Blk.cell (h : Blk w g t cs) (i : Nat) : w.cell? ⟨g, i, none⟩ = cs[i]? := cell_of_row w g i cs t (0, 0) h
theorem Blk.frozen (h : Blk w g t cs) (i : Nat) : w.frozen? ⟨g, i, none⟩ = false := by
  unfold Blk at h
  simp [World.frozen?, h]
theorem Blk.new (w : World) (t : TypeId) (cs : Array Value) : Blk (w.alloc (.cells cs t)) w.heap.size t cs := heap_alloc_new w _
theorem Blk.alloc (h : Blk w g t cs) (o : Obj) : Blk (w.alloc o) g t cs := (Below.heap_alloc w o g h.lt).trans h
theorem Blk.set_ (h : Blk w g t cs) (i : Nat) (u : Value) : Blk (w.setCell ⟨g, i, none⟩ u) g t (cs.setIfInBounds i u) := by
  unfold Blk at h ⊢
  simp [World.setCell, Array.getElem?_modify, h]
theorem Blk.far (h : Blk w g t cs) {p : Addr} (hp : g ≠ p.block) (u : Value) : Blk (w.setCell p u) g t cs := (Below.heap_setCell w p u g hp).trans h
theorem Blk.below {B : Nat} (h : Blk w g t cs) (hb : Below B w w') (hg : g < B) : Blk w' g t cs := (hb.block g hg).trans h
end
theorem Blk.drew {w : World} {g : Nat} {t : TypeId} {cs : Array Value} (h : Blk w g t cs) : Blk w.drew g t cs := h
theorem Blk.only {w w' : World} {g a b : Nat} {t : TypeId} {cs : Array Value} (h : Blk w g t cs) (ho : Only a b w w') (ha : g ≠ a) (hb : g ≠ b) : Blk w' g t cs := (ho.block g h.lt ha hb).trans h
theorem Blk.here {w w' : World} {g : Nat} {t : TypeId} {cs : Array Value} (h : Blk w g t cs) (hb : Below w.heap.size w w') : Blk w' g t cs := h.below hb h.lt
end Go.Proofs.YtmbmolgkccjedaaGreatDoor
