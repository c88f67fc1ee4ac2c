/- A disk in memory: of package disk (its sectors' bytes lie one behind the other), and the document's (its sectors are texts); what a call on one leaves as it was. -/
import Derived.Test.YtpafpmefhfmndaaDoorKPure
import Derived.Test.YtpafpmefhfmndaaDoorKAsWalk
import Derived.Deep.MidRow
set_option linter.unusedVariables false
set_option linter.unusedSimpArgs false
namespace Go.Proofs.YtpafpmefhfmndaaDoor
open Go.RowKit Go.Extern.Stop Go.Stop Go.Extern

/-- All blocks that were there are as they were, but a and b. -/
structure Only (a b : Nat) (w w' : World) : Prop where
  os : w'.os = w.os
  tape : w'.tape = w.tape
  output : w'.output = w.output
  size : w.heap.size ≤ w'.heap.size
  block : ∀ k, k < w.heap.size → k ≠ a → k ≠ b → w'.heap[k]? = w.heap[k]?

theorem Only.refl (a b : Nat) (w : World) : Only a b w w := ⟨rfl, rfl, rfl, Nat.le_refl _, fun _ _ _ _ => rfl⟩
theorem Only.trans {a b : Nat} {u v w : World} (h : Only a b u v) (k : Only a b v w) : Only a b u w :=
  ⟨k.os.trans h.os, k.tape.trans h.tape, k.output.trans h.output, Nat.le_trans h.size k.size, fun i hi ha hb => (k.block i (Nat.lt_of_lt_of_le hi h.size) ha hb).trans (h.block i hi ha hb)⟩
theorem Only.ofBelow {a b : Nat} {w w' : World} (h : Below w.heap.size w w') : Only a b w w' := ⟨h.os, h.tape, h.output, h.size, fun k hk _ _ => h.block k hk⟩
theorem Only.below {a b : Nat} {u v w : World} (h : Only a b u v) (k : Below v.heap.size v w) : Only a b u w := h.trans (Only.ofBelow k)
theorem Only.setCell {a b : Nat} {u w : World} (h : Only a b u w) {p : Addr} (hp : p.block = a ∨ p.block = b) (x : Value) : Only a b u (w.setCell p x) :=
  h.trans ⟨rfl, rfl, rfl, by simp [World.setCell], fun k _ ha hb => Below.heap_setCell _ _ _ _ (by rcases hp with hp | hp <;> omega)⟩
theorem Only.sa {a b : Nat} {u w : World} (h : Only a b u w) (o : Nat) (x : Value) : Only a b u (w.setCell ⟨a, o, none⟩ x) := h.setCell (p := ⟨a, o, none⟩) (.inl rfl) x
theorem Only.sb {a b : Nat} {u w : World} (h : Only a b u w) (o : Nat) (x : Value) : Only a b u (w.setCell ⟨b, o, none⟩ x) := h.setCell (p := ⟨b, o, none⟩) (.inr rfl) x
theorem Only.alloc {a b : Nat} {u w : World} (h : Only a b u w) (o : Obj) : Only a b u (w.alloc o) := h.below ((Below.refl _ _).alloc (Nat.le_refl _) _)
theorem Only.setCells {a b : Nat} {u : World} : ∀ (vs : List Value) (o : Nat) (w : World), Only a b u w → Only a b u (w.setCells b o vs)
  | [], _, _, h => h
  | v :: r, o, w, h => Only.setCells r (o + 1) _ (h.setCell (p := ⟨b, o, none⟩) (.inr rfl) v)
/-- Below a number that is not greater than both, nothing is changed. -/
theorem Only.toBelow {a b B : Nat} {w0 w w' : World} (h : Only a b w w') (hB : Below B w0 w) (ha : B ≤ a) (hb : B ≤ b) (hs : B ≤ w.heap.size) : Below B w0 w' :=
  hB.trans ⟨h.os, h.tape, h.output, h.size, fun k hk => h.block k (by omega) (by omega) (by omega)⟩
theorem Only.heap {a b k : Nat} {w w' : World} (h : Only a b w w') (hk : k < w.heap.size) (ha : k ≠ a) (hb : k ≠ b) : w'.heap[k]? = w.heap[k]? := h.block k hk ha hb
theorem Only.cell {a b : Nat} {w w' : World} (h : Only a b w w') {p : Addr} {v : Value} (hc : w.cell? p = some v) (ha : p.block ≠ a) (hb : p.block ≠ b) : w'.cell? p = some v :=
  (World.cell?_of_block (w := w) (h.block p.block (World.block_lt_of_cell? _ _ hc) ha hb)).trans hc

/-- The four numbers of a disk, in the cells 1 to 4 of the block a. -/
structure HdAt (a : Nat) (D : Dk) (w : World) : Prop where
  c1 : w.cell? ⟨a, 1, none⟩ = some (.int .i64 (D.left : Int))
  c2 : ∃ c : Int, w.cell? ⟨a, 2, none⟩ = some (.int .i64 c) ∧ (0 < D.left → c = D.cut)
  c3 : w.cell? ⟨a, 3, none⟩ = some (.bool D.down)
  c4 : w.cell? ⟨a, 4, none⟩ = some (.int .i64 (D.n : Int))
  f1 : w.frozen? ⟨a, 1, none⟩ = false
  f2 : w.frozen? ⟨a, 2, none⟩ = false
  f3 : w.frozen? ⟨a, 3, none⟩ = false
  f4 : w.frozen? ⟨a, 4, none⟩ = false

theorem HdAt.lt {a : Nat} {D : Dk} {w : World} (h : HdAt a D w) : a < w.heap.size := World.block_lt_of_cell? _ _ h.c1
theorem HdAt.same {a : Nat} {D : Dk} {w w' : World} (h : HdAt a D w) (e : w'.heap[a]? = w.heap[a]?) : HdAt a D w' := by
  have c : ∀ o, w'.cell? ⟨a, o, none⟩ = w.cell? ⟨a, o, none⟩ := fun o => World.cell?_of_block (w := w) (a := ⟨a, o, none⟩) e
  have f : ∀ o, w'.frozen? ⟨a, o, none⟩ = w.frozen? ⟨a, o, none⟩ := fun o => World.frozen?_of_block (w := w) (a := ⟨a, o, none⟩) e
  exact ⟨(c 1).trans h.c1, by rw [c 2]; exact h.c2, (c 3).trans h.c3, (c 4).trans h.c4, (f 1).trans h.f1, (f 2).trans h.f2, (f 3).trans h.f3, (f 4).trans h.f4⟩

/-- A disk of package disk: its fields at a, its sectors' bytes at b. -/
structure DAt (a b : Nat) (D : Dk) (w : World) : Prop where
  hd : HdAt a D w
  c0 : w.cell? ⟨a, 0, none⟩ = some (.slice (some ⟨b, 0, none⟩) D.ss.length D.ss.length)
  ne : a ≠ b
  rg : ∀ i s, D.ss[i]? = some s → w.rangeAt b (i * 64) (Lib.byteCells s.data.toList)
  th : ∀ i, i < D.ss.length → w.there b (i * 64) 64
  ok : D.Ok

/-- The document's disk: its fields at a, its sectors' texts at b. -/
structure RAt (a b : Nat) (D : Dk) (w : World) : Prop where
  hd : HdAt a D w
  c0 : ∃ cap, w.cell? ⟨a, 0, none⟩ = some (.slice (some ⟨b, 0, none⟩) D.ss.length cap)
  ne : a ≠ b
  rg : ∀ i s, D.ss[i]? = some s → w.cell? ⟨b, i, none⟩ = some (.string s) ∧ w.frozen? ⟨b, i, none⟩ = false
  ok : D.Ok

theorem range_lt {w : World} {b o : Nat} {s : ByteArray} (hs : s.size = 64) (h : w.rangeAt b o (Lib.byteCells s.data.toList)) : b < w.heap.size := by
  have hl : 0 < (Lib.byteCells s.data.toList).length := by rw [Lib.byteCells_length, Array.length_toList]; have : s.data.size = 64 := hs; omega
  exact World.block_lt_of_cell? _ _ (h 0 _ (List.getElem?_eq_getElem hl))
theorem DAt.lt {a b : Nat} {D : Dk} {w : World} (h : DAt a b D w) : b < w.heap.size := by
  have h0 : 0 < D.ss.length := h.ok.m1
  have e := List.getElem?_eq_getElem h0
  exact range_lt (h.ok.a64.get e) (h.rg 0 _ e)
theorem DAt.lta {a b : Nat} {D : Dk} {w : World} (h : DAt a b D w) : a < w.heap.size := h.hd.lt
theorem RAt.lt {a b : Nat} {D : Dk} {w : World} (h : RAt a b D w) : b < w.heap.size := by
  have h0 : 0 < D.ss.length := h.ok.m1
  exact World.block_lt_of_cell? _ _ (h.rg 0 _ (List.getElem?_eq_getElem h0)).1
theorem RAt.lta {a b : Nat} {D : Dk} {w : World} (h : RAt a b D w) : a < w.heap.size := h.hd.lt

theorem DAt.same {a b : Nat} {D : Dk} {w w' : World} (h : DAt a b D w) (ea : w'.heap[a]? = w.heap[a]?) (eb : w'.heap[b]? = w.heap[b]?) : DAt a b D w' :=
  ⟨h.hd.same ea, (World.cell?_of_block (w := w) (a := ⟨a, 0, none⟩) ea).trans h.c0, h.ne, fun i s e j v hv => (World.cell?_of_block (w := w) (a := ⟨b, i * 64 + j, none⟩) eb).trans (h.rg i s e j v hv),
   fun i hi j hj => by
    obtain ⟨h1, h2⟩ := h.th i hi j hj
    exact ⟨by rw [World.cell?_of_block (w := w) (a := ⟨b, i * 64 + j, none⟩) eb]; exact h1, (World.frozen?_of_block (w := w) (a := ⟨b, i * 64 + j, none⟩) eb).trans h2⟩, h.ok⟩
theorem RAt.same {a b : Nat} {D : Dk} {w w' : World} (h : RAt a b D w) (ea : w'.heap[a]? = w.heap[a]?) (eb : w'.heap[b]? = w.heap[b]?) : RAt a b D w' :=
  ⟨h.hd.same ea, by obtain ⟨cap, e⟩ := h.c0; exact ⟨cap, (World.cell?_of_block (w := w) (a := ⟨a, 0, none⟩) ea).trans e⟩, h.ne,
   fun i s e => ⟨(World.cell?_of_block (w := w) (a := ⟨b, i, none⟩) eb).trans (h.rg i s e).1, (World.frozen?_of_block (w := w) (a := ⟨b, i, none⟩) eb).trans (h.rg i s e).2⟩, h.ok⟩
theorem DAt.below {a b : Nat} {D : Dk} {w w' : World} (h : DAt a b D w) (hb : Below w.heap.size w w') : DAt a b D w' := h.same (hb.block _ h.lta) (hb.block _ h.lt)
theorem RAt.below {a b : Nat} {D : Dk} {w w' : World} (h : RAt a b D w) (hb : Below w.heap.size w w') : RAt a b D w' := h.same (hb.block _ h.lta) (hb.block _ h.lt)
theorem DAt.only {a b a' b' : Nat} {D : Dk} {w w' : World} (h : DAt a b D w) (ho : Only a' b' w w') (h1 : a ≠ a') (h2 : a ≠ b') (h3 : b ≠ a') (h4 : b ≠ b') : DAt a b D w' := h.same (ho.block _ h.lta h1 h2) (ho.block _ h.lt h3 h4)
theorem RAt.only {a b a' b' : Nat} {D : Dk} {w w' : World} (h : RAt a b D w) (ho : Only a' b' w w') (h1 : a ≠ a') (h2 : a ≠ b') (h3 : b ≠ a') (h4 : b ≠ b') : RAt a b D w' := h.same (ho.block _ h.lta h1 h2) (ho.block _ h.lt h3 h4)

/-- What the calls stand on: errors.errorType, and nums' three errors. -/
structure DEnv (w : World) : Prop where
  e : EnvE w
  n : ∃ a0 a1 a2, Env a0 a1 a2 w
theorem DEnv.below {w w' : World} (h : DEnv w) (hb : Below w.heap.size w w') : DEnv w' := ⟨h.e.below hb, by obtain ⟨a0, a1, a2, k⟩ := h.n; exact ⟨a0, a1, a2, k.below hb⟩⟩
end Go.Proofs.YtpafpmefhfmndaaDoor
