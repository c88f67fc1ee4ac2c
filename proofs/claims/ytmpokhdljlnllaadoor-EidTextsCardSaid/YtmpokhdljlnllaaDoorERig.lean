/- Two names compared; two pairs of halves compared. -/
import Derived.Test.YtmpokhdljlnllaaDoorESch
import Derived.Deep.Cut
import Derived.Deep.CutRange
import Derived.Laws.EntriesVeiled
set_option linter.unusedVariables false
set_option linter.unusedSimpArgs false
namespace Go.Proofs.YtmpokhdljlnllaaDoor
open Go.RowKit Go.Shelf

theorem frozenIn {X Y : World} {p : Addr} {v : Value} (h : Hid (Below X.heap.size X Y)) (hc : X.cell? p = some v) (e : X.frozen? p = false) : Y.frozen? p = false := (h.out.frozen (World.block_lt_of_cell? _ _ hc)).trans e
theorem below_set_l {w X : World} {p : Addr} {v : Value} (e : Below w.heap.size w X) (h : w.heap.size ≤ p.block) : Below w.heap.size w (X.setCell p v) := e.setCell h v
theorem zfacts {X Y : World} {p0 p1 p2 p3 : Addr} {v0 v1 v2 v3 : Value} {G : Prop} (h : Hid (Below X.heap.size X Y)) (c0 : X.cell? p0 = some v0) (c1 : X.cell? p1 = some v1) (c2 : X.cell? p2 = some v2) (c3 : X.cell? p3 = some v3) (e0 : X.frozen? p0 = false) (e1 : X.frozen? p1 = false) (e2 : X.frozen? p2 = false) (e3 : X.frozen? p3 = false)
    (k : Y.cell? p0 = some v0 → Y.cell? p1 = some v1 → Y.cell? p2 = some v2 → Y.cell? p3 = some v3 → Y.frozen? p0 = false → Y.frozen? p1 = false → Y.frozen? p2 = false → Y.frozen? p3 = false → G) : G :=
  k (cellIn h c0) (cellIn h c1) (cellIn h c2) (cellIn h c3) (frozenIn h c0 e0) (frozenIn h c1 e1) (frozenIn h c2 e2) (frozenIn h c3 e3)
theorem heap_al {X : World} {o x : Obj} {b : Nat} (h : X.heap[b]? = some x) : (X.alloc o).heap[b]? = some x := (Below.heap_alloc _ _ _ (lt_of_heap h)).trans h
/-- May all parts stand there? -/
def allP (ps : List (ByteArray × Bool)) : Bool := ps.all (·.2)
/-- The parts of each scheme. -/
def psN : List (ByteArray × Bool) := [(⟨#[110, 111, 110, 101]⟩, true)]
def psD (nd sv : ByteArray) : List (ByteArray × Bool) := [(⟨#[47, 47]⟩, true), (nd, ndR nd), (⟨#[47]⟩, true), (sv, svR sv)]
def psI (a b : Int) : List (ByteArray × Bool) := [(⟨(Lib.itoa a).toArray⟩, aR a), (⟨#[46]⟩, true), (⟨(Lib.itoa b).toArray⟩, bR b)]
/-- Are two names the same? -/
def nmE (k : Int) (nd sv : ByteArray) (a b k' : Int) (nd' sv' : ByteArray) (a' b' : Int) : Bool := decide (k = k' ∧ nd.toList = nd'.toList ∧ sv.toList = sv'.toList ∧ a = a' ∧ b = b')
theorem nm_eql (k : Int) (nd sv : ByteArray) (a b k' : Int) (nd' sv' : ByteArray) (a' b' : Int) (w : World) : (binOp .eql 23 (.agg #[.int .i64 k, .string nd, .string sv, .int .i64 a, .int .i64 b]) (.agg #[.int .i64 k', .string nd', .string sv', .int .i64 a', .int .i64 b'])).run Tryd.prog w = .ok (.bool (nmE k nd sv a b k' nd' sv' a' b')) w := by
  unfold nmE
  by_cases h1 : k = k' <;> by_cases h2 : nd.toList = nd'.toList <;> by_cases h3 : sv.toList = sv'.toList <;> by_cases h4 : a = a' <;> by_cases h5 : b = b' <;> go_simp <;> simp [h1, h2, h3, h4, h5]
theorem nm_neq (k : Int) (nd sv : ByteArray) (a b k' : Int) (nd' sv' : ByteArray) (a' b' : Int) (w : World) : (binOp .neq 23 (.agg #[.int .i64 k, .string nd, .string sv, .int .i64 a, .int .i64 b]) (.agg #[.int .i64 k', .string nd', .string sv', .int .i64 a', .int .i64 b'])).run Tryd.prog w = .ok (.bool (!nmE k nd sv a b k' nd' sv' a' b')) w := by
  unfold nmE
  by_cases h1 : k = k' <;> by_cases h2 : nd.toList = nd'.toList <;> by_cases h3 : sv.toList = sv'.toList <;> by_cases h4 : a = a' <;> by_cases h5 : b = b' <;> go_simp <;> simp [h1, h2, h3, h4, h5]
theorem toList_inj {s t : ByteArray} (h : s.toList = t.toList) : s = t := by
  rw [ByteArray.toList_eq, ByteArray.toList_eq] at h
  apply ByteArray.ext
  exact Array.toList_inj.1 h
theorem nmE_iff {k : Int} {nd sv : ByteArray} {a b k' : Int} {nd' sv' : ByteArray} {a' b' : Int} : nmE k nd sv a b k' nd' sv' a' b' = true ↔ k = k' ∧ nd = nd' ∧ sv = sv' ∧ a = a' ∧ b = b' := by
  unfold nmE
  rw [decide_eq_true_eq]
  constructor
  · rintro ⟨h1, h2, h3, h4, h5⟩
    exact ⟨h1, toList_inj h2, toList_inj h3, h4, h5⟩
  · rintro ⟨rfl, rfl, rfl, rfl, rfl⟩
    exact ⟨rfl, rfl, rfl, rfl, rfl⟩
/-- Are two pairs of halves the same? -/
def hvE (s t s' t' : ByteArray) : Bool := decide (s.toList = s'.toList ∧ t.toList = t'.toList)
theorem hv_neq (s t s' t' : ByteArray) (w : World) : (binOp .neq 41 (.agg #[.string s, .string t]) (.agg #[.string s', .string t'])).run Tryd.prog w = .ok (.bool (!hvE s t s' t')) w := by
  unfold hvE
  by_cases h1 : s.toList = s'.toList <;> by_cases h2 : t.toList = t'.toList <;> go_simp <;> simp [h1, h2]
theorem hvE_iff {s t s' t' : ByteArray} : hvE s t s' t' = true ↔ s = s' ∧ t = t' := by
  unfold hvE
  rw [decide_eq_true_eq]
  constructor
  · rintro ⟨h1, h2⟩
    exact ⟨toList_inj h1, toList_inj h2⟩
  · rintro ⟨rfl, rfl⟩
    exact ⟨rfl, rfl⟩
/-- What lies where a scheme was looked up: the name, and the scheme at B. -/
structure SchAt (k : Int) (nd sv : ByteArray) (a b : Int) (v0 v1 v2 v3 : Value) (w : World) (B : Nat) (W : World) : Prop where
  n0 : W.cell? ⟨w.heap.size, 0, none⟩ = some (.int .i64 k)
  n1 : W.cell? ⟨w.heap.size, 1, none⟩ = some (.string nd)
  n2 : W.cell? ⟨w.heap.size, 2, none⟩ = some (.string sv)
  n3 : W.cell? ⟨w.heap.size, 3, none⟩ = some (.int .i64 a)
  n4 : W.cell? ⟨w.heap.size, 4, none⟩ = some (.int .i64 b)
  s0 : W.cell? ⟨B, 0, none⟩ = some v0
  s1 : W.cell? ⟨B, 1, none⟩ = some v1
  s2 : W.cell? ⟨B, 2, none⟩ = some v2
  s3 : W.cell? ⟨B, 3, none⟩ = some v3
  be : Below w.heap.size w W
theorem SchAt.below {k : Int} {nd sv : ByteArray} {a b : Int} {v0 v1 v2 v3 : Value} {w : World} {B : Nat} {W W' : World} (h : SchAt k nd sv a b v0 v1 v2 v3 w B W) (hb : Below W.heap.size W W') : SchAt k nd sv a b v0 v1 v2 v3 w B W' := by
  have c : ∀ {p : Addr} {v : Value}, W.cell? p = some v → W'.cell? p = some v := fun e => (hb.cell (World.block_lt_of_cell? _ _ e)).trans e
  exact ⟨c h.n0, c h.n1, c h.n2, c h.n3, c h.n4, c h.s0, c h.s1, c h.s2, c h.s3, h.be.trans (hb.mono h.be.size)⟩
end Go.Proofs.YtmpokhdljlnllaaDoor
