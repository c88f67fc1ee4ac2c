/- Contract of groups of package sdnv: a number's groups, in new memory. -/
import Derived.Test.YtajeanmmelldnaaDoorSPure
import Derived.Test.YtajeanmmelldnaaDoorSTell
import Derived.LoopTactic
import Derived.Deep.OwnRows
import Derived.Laws.IdiomStrings
import Derived.Laws.MakeOwn
import Derived.Laws.OwnMore
import Derived.Deep.Draws
import Derived.Laws.Rows
import Derived.IntWalk
set_option linter.unusedVariables false
set_option linter.unusedSimpArgs false
namespace Go.Proofs.YtajeanmmelldnaaDoor
open Go.RowKit

theorem u8_info : (Tryd.prog.info? 5).map (fun i => (i.zero, i.size, i.bytes)) = some (some (.int .u8 0), 1, 1) := by kernel_rfl

/-- The block g is just these cells, none of them frozen. -/
def Blk (w : World) (g : Nat) (t : TypeId) (cs : Array Value) : Prop := w.heap[g]? = some (.cells cs t (0, 0))
section
variable {w w' : World} {g : Nat} {t : TypeId} {cs : Array Value}
theorem Blk.lt (h : Blk w g t cs) : g < w.heap.size := by
  rcases Nat.lt_or_ge g w.heap.size with hlt | hge
  · exact hlt
  · unfold Blk at h; rw [Array.getElem?_eq_none hge] at h; cases h
theorem Blk.cell (h : Blk w g t cs) (i : Nat) : w.cell? ⟨g, i, none⟩ = cs[i]? := cell_of_row w g i cs t (0, 0) h
theorem Blk.frozen (h : Blk w g t cs) (i : Nat) : w.frozen? ⟨g, i, none⟩ = false := by
  unfold Blk at h
  simp [World.frozen?, h]
theorem Blk.new (w : World) (t : TypeId) (cs : Array Value) : Blk (w.alloc (.cells cs t)) w.heap.size t cs := heap_alloc_new w _
theorem Blk.alloc (h : Blk w g t cs) (o : Obj) : Blk (w.alloc o) g t cs := (Below.heap_alloc w o g h.lt).trans h
theorem Blk.set_ (h : Blk w g t cs) (i : Nat) (u : Value) : Blk (w.setCell ⟨g, i, none⟩ u) g t (cs.setIfInBounds i u) := by
  unfold Blk at h ⊢
  simp [World.setCell, Array.getElem?_modify, h]
theorem Blk.far (h : Blk w g t cs) {p : Addr} (hp : g ≠ p.block) (u : Value) : Blk (w.setCell p u) g t cs := (Below.heap_setCell w p u g hp).trans h
theorem Blk.below {B : Nat} (h : Blk w g t cs) (hb : Below B w w') (hg : g < B) : Blk w' g t cs := (hb.block g hg).trans h
end

/-- A byte's cell. -/
def bv (b : UInt8) : Value := .int .u8 ((b.toNat : Nat) : Int)
/-- Seven cells: a noughts, and these bytes. -/
def rowG (a : Nat) (t : List UInt8) : Array Value := (List.replicate a (Value.int .u8 0) ++ t.map bv).toArray
theorem rowG_size (a : Nat) (t : List UInt8) : (rowG a t).size = a + t.length := by simp [rowG]
theorem rowG_lo {a j : Nat} (t : List UInt8) (h : j < a) : (rowG a t)[j]? = some (.int .u8 0) := by
  unfold rowG
  rw [List.getElem?_toArray, List.getElem?_append_left (by simpa using h)]
  simp [h]
theorem rowG_hi (a j : Nat) (t : List UInt8) : (rowG a t)[a + j]? = t[j]?.map bv := by
  unfold rowG
  rw [List.getElem?_toArray, List.getElem?_append_right (by simp)]
  simp
theorem set_rep {α : Type} (z v : α) (l : List α) : ∀ a : Nat, (List.replicate (a + 1) z ++ l).set a v = List.replicate a z ++ v :: l := by
  intro a
  induction a with
  | zero => simp
  | succ a ih =>
    rw [List.replicate_succ, List.cons_append, List.set_cons_succ, ih, List.replicate_succ, List.cons_append]
theorem rowG_set (a : Nat) (t : List UInt8) (b : UInt8) : (rowG (a + 1) t).setIfInBounds a (bv b) = rowG a (b :: t) := by
  unfold rowG
  rw [List.setIfInBounds_toArray, set_rep]
  rfl
theorem rowG_made : madeCells #[Value.int .u8 0] 7 = rowG 7 [] := by
  apply Array.toList_inj.1
  rw [toList_madeCells_one]
  simp [rowG]

theorem and_127 (m : Nat) (h : m ≤ 281474976710655) : bits BinOp.and IntKind.i64 (m : Int) 127 = ((m % 128 : Nat) : Int) := by
  unfold bits
  have hk : IntKind.i64.bits = 64 := rfl
  have e1 : BitVec.ofInt IntKind.i64.bits (m : Int) = BitVec.ofNat IntKind.i64.bits m := BitVec.ofInt_natCast _ _
  have e2 : BitVec.ofInt IntKind.i64.bits (127 : Int) = BitVec.ofNat IntKind.i64.bits 127 := BitVec.ofInt_natCast _ 127
  have e3 : (BitVec.ofNat IntKind.i64.bits m &&& BitVec.ofNat IntKind.i64.bits 127).toNat = m % 128 := by
    rw [BitVec.toNat_and, BitVec.toNat_ofNat, BitVec.toNat_ofNat, hk, Nat.mod_eq_of_lt (a := m) (by omega), Nat.mod_eq_of_lt (a := 127) (by omega)]
    exact Nat.and_two_pow_sub_one_eq_mod m 7
  simp only [e1, e2, e3]
  exact IntWalk.i64_in _ (by omega)
theorem or_128 (k : Nat) (h : k < 128) : bits BinOp.or IntKind.u8 128 (k : Int) = ((128 + k : Nat) : Int) := by
  have : ∀ k : Fin 128, bits BinOp.or IntKind.u8 128 ((k.val : Nat) : Int) = ((128 + k.val : Nat) : Int) := by decide +kernel
  exact this ⟨k, h⟩

/-- What groups answers. -/
def GrpAt (n : Nat) (w : World) (e : Ending) (w' : World) : Prop :=
  ∃ a, (grpL n).length + a = 7 ∧ e = .returned (.slice (some ⟨w.heap.size, a, none⟩) (grpL n).length (grpL n).length) ∧ Blk w' w.heap.size 5 (rowG a (grpL n)) ∧ Below w.heap.size w w'

/-- What holds at a round's head of groups: of what is left of the number, m, no group is laid; the others, t, stand from place a on. -/
structure GInv (n : Nat) (w : World) (m a : Nat) (t : List UInt8) (wr : World) : Prop where
  e : hiL m ++ t = grpL n
  len : t.length + a = 7
  pos : 1 ≤ t.length
  max : m ≤ 281474976710655
  blk : Blk wr w.heap.size 5 (rowG a t)
  below : Below w.heap.size w wr
theorem GInv.room {n m a : Nat} {t : List UInt8} {w wr : World} (h : GInv n w m a t wr) (hn : n ≤ 281474976710655) (hm : m ≠ 0) : 1 ≤ a := by
  have h1 := grpL_length hn
  have h2 := congrArg List.length h.e
  have h3 := h.len
  rw [hiL_pos hm] at h2
  simp at h2
  omega
theorem GInv.step {n m a : Nat} {t : List UInt8} {w wr : World} (h : GInv n w m (a + 1) t wr) (hm : m ≠ 0) (v : Value) (hv : v = .int .u8 ((128 + m % 128 : Nat) : Int)) :
    GInv n w (m / 128) a (UInt8.ofNat (128 + m % 128) :: t) (wr.setCell ⟨w.heap.size, a, none⟩ v) := by
  refine ⟨?_, ?_, by simp, by have := h.max; omega, ?_, h.below.setCell (p := ⟨w.heap.size, a, none⟩) (Nat.le_refl _) _⟩
  · have := h.e
    rw [hiL_pos hm] at this
    simpa using this
  · have := h.len
    simp
    omega
  · have e : v = bv (UInt8.ofNat (128 + m % 128)) := by rw [hv]; unfold bv; rw [u8_hi _ (by omega)]
    rw [e, ← rowG_set]
    exact h.blk.set_ a _
theorem GInv.start (n : Nat) (w : World) (hn : n ≤ 281474976710655) (v : Value) (hv : v = .int .u8 ((n % 128 : Nat) : Int)) :
    GInv n w (n / 128) 6 [UInt8.ofNat (n % 128)] (w.alloc (.cells ((rowG 7 []).setIfInBounds 6 v) 5)) := by
  refine ⟨rfl, rfl, by simp, by omega, ?_, (Below.refl _ _).alloc (Nat.le_refl _) _⟩
  have e : v = bv (UInt8.ofNat (n % 128)) := by rw [hv]; unfold bv; rw [u8_lo _ (by omega)]
  rw [e, rowG_set]
  exact Blk.new w _ _

theorem GrpAt.mk {n a : Nat} {t : List UInt8} {w wr : World} (h : GInv n w 0 a t wr) : GrpAt n w (.returned (.slice (some ⟨w.heap.size, a, none⟩) (7 - a) (7 - a))) wr := by
  have e := h.e
  rw [hiL_zero, List.nil_append] at e
  subst e
  have hl := h.len
  have : 7 - a = (grpL n).length := by omega
  rw [this]
  exact ⟨a, hl, rfl, h.blk, h.below⟩

set_option maxRecDepth 100000 in
set_option maxHeartbeats 1000000 in
theorem groups_any (n : Nat) (w : World) (hn : n ≤ 281474976710655) :
    Calls Tryd.prog 34 #[.int .i64 (n : Int)] w (GrpAt n w) := by
  have hmk : ∀ W : World, (Instr.makeSlice 49 (.int .i64 7) (.int .i64 7)).run Tryd.prog W = .ok (.slice (some ⟨W.heap.size, 0, none⟩) 7 7) (W.alloc (.cells (rowG 7 []) 5)) := fun W => by
    have h := run_make_row' (P := Tryd.prog) 49 5 (.int .u8 0) 1 Tryd.underlying49 u8_info rfl .i64 .i64 7 (by omega) (by omega) W
    rw [rowG_made] at h
    exact h
  have ha := and_127 n hn
  have hl : n % 128 < 128 := by omega
  have hB1 := Blk.new w 5 (rowG 7 [])
  have c6 := hB1.cell 6
  rw [rowG_lo [] (by omega)] at c6
  have f6 := hB1.frozen 6
  have HB := Lib.hid hB1
  clear hB1
  go_enter Tryd.func34, Tryd.ntmps34
  go_wp2
  go_loopw [0, 4] (fun x y wr => ∃ (m a : Nat) (t : List UInt8), x = .int .i64 (m : Int) ∧ y = .int .i64 (a : Int) ∧ GInv n w m a t wr) (fun x _ _ => (intOf x).toNat)
  case atStart => exact ⟨n / 128, 6, _, by simp, rfl, GInv.start n w hn _ (by simp)⟩
  case round =>
    obtain ⟨m, a, t, rfl, rfl, hI⟩ := hrel
    clear ha hl c6 f6 HB hmk
    have hmax := hI.max
    by_cases hm : m = 0
    · subst hm
      have hlen := hI.len
      have hpos := hI.pos
      have ha6 : a ≤ 6 := by omega
      have HI := Lib.hid hI
      clear hI hlen hpos
      go_wp2
      go_ret
      exact GrpAt.mk HI.out
    · have hr := hI.room hn hm
      obtain ⟨b, rfl⟩ : ∃ b, a = b + 1 := ⟨a - 1, by omega⟩
      have hlen := hI.len
      have hpos := hI.pos
      have hb5 : b ≤ 5 := by omega
      have hm0 : 0 < m := by omega
      have c := hI.blk.cell b
      rw [rowG_lo _ (by omega)] at c
      have f := hI.blk.frozen b
      have ha := and_127 m hmax
      have HI := Lib.hid hI
      clear hI hr hlen hpos hm
      go_wp2
      go_roundw
      case rel => exact ⟨m / 128, b, _, by simp, by first | rfl | go_num, HI.out.step (by omega) _ (by have := or_128 (m % 128) (by omega); rw [← this]; simp)⟩
      case measure => simp [intOf]; omega
end Go.Proofs.YtajeanmmelldnaaDoor
