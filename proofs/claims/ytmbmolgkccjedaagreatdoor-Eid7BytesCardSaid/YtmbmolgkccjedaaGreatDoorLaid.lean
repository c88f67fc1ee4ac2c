/- Contract of laid of package nums: a number's bytes in a width from 1 to 8, the greatest part first. -/
import Derived.Test.YtmbmolgkccjedaaGreatDoorNumsA
import Derived.Laws.MakeOwn
import Derived.LoopTactic
import Derived.Deep.OwnRows
import Derived.Laws.IdiomStrings
import Derived.RegionTactic
set_option linter.unusedVariables false
set_option linter.unusedSimpArgs false
namespace Go.Proofs.YtmbmolgkccjedaaGreatDoor
open Go.RowKit

set_option maxRecDepth 100000 in
set_option maxHeartbeats 1000000 in
theorem lay_at (x : Int) (p len cap R bs bl : Nat) (v : Value) (w : World) (hx : 0 ≤ x) (hx' : x ≤ 281474976710655) (hp : p < len) (hlen : len ≤ 8)
    (c0 : w.cell? ⟨bs, 0, none⟩ = some (.slice (some ⟨R, 0, none⟩) len cap)) (c1 : w.cell? ⟨bl, 0, none⟩ = some (.int .i64 x)) (c2 : w.cell? ⟨R, p, none⟩ = some v) (f1 : w.frozen? ⟨bl, 0, none⟩ = false) (f2 : w.frozen? ⟨R, p, none⟩ = false) (hne : R ≠ bl) :
    Calls Tryz.prog 192 #[.int .i64 (p : Int), .pointer (some ⟨bl, 0, none⟩), .pointer (some ⟨bs, 0, none⟩)] w fun e w' => (∃ v, e = .returned v) ∧ (w.setCell ⟨R, p, none⟩ (.int .u8 (x % 256))).setCell ⟨bl, 0, none⟩ (.int .i64 (x / 256)) = w' := by
  go_enter Tryz.func192, Tryz.ntmps192
  go_wp2
  go_end0
  exact ⟨⟨_, rfl⟩, rfl⟩

theorem lay_any (x q : Int) (p len cap R bs bl : Nat) (v : Value) (w : World) (hq : q = p) (hx : 0 ≤ x) (hx' : x ≤ 281474976710655) (hp : p < len) (hlen : len ≤ 8)
    (c0 : w.cell? ⟨bs, 0, none⟩ = some (.slice (some ⟨R, 0, none⟩) len cap)) (c1 : w.cell? ⟨bl, 0, none⟩ = some (.int .i64 x)) (c2 : w.cell? ⟨R, p, none⟩ = some v) (f1 : w.frozen? ⟨bl, 0, none⟩ = false) (f2 : w.frozen? ⟨R, p, none⟩ = false) (hne : R ≠ bl) :
    Calls Tryz.prog 192 #[.int .i64 q, .pointer (some ⟨bl, 0, none⟩), .pointer (some ⟨bs, 0, none⟩)] w fun e w' => (∃ v, e = .returned v) ∧ (w.setCell ⟨R, p, none⟩ (.int .u8 (x % 256))).setCell ⟨bl, 0, none⟩ (.int .i64 (x / 256)) = w' := by
  subst hq
  exact lay_at x p len cap R bs bl v w hx hx' hp hlen c0 c1 c2 f1 f2 hne

/-- The byte j of the number n in the width k. -/
def byteAt (n : Nat) (k j : Nat) : Nat := n / 256 ^ (k - 1 - j) % 256
/-- The bytes of the number n in the width k, the greatest part first. -/
def beL (n k : Nat) : List UInt8 := (List.range k).map fun j => UInt8.ofNat (byteAt n k j)
theorem beL_length (n k : Nat) : (beL n k).length = k := by simp [beL]

/-- What holds of memory at a round's head, i places being left: the list's box, what is left of the number, the row. -/
structure LaidAt (n k : Nat) (w0 : World) (R i : Nat) (w : World) : Prop where
  list : w.cell? ⟨R + 1, 0, none⟩ = some (.slice (some ⟨R, 0, none⟩) k k)
  left : w.cell? ⟨R + 1 + 1, 0, none⟩ = some (.int .i64 ((n / 256 ^ (k - i) : Nat) : Int))
  fleft : w.frozen? ⟨R + 1 + 1, 0, none⟩ = false
  row : ∀ j, j < k → w.cell? ⟨R, j, none⟩ = some (.int .u8 (if j < i then 0 else (byteAt n k j : Int)))
  frow : ∀ j, j < k → w.frozen? ⟨R, j, none⟩ = false
  below : Below R w0 w
  le : i ≤ k

theorem LaidAt.step {n k R i : Nat} {w0 w : World} (h : LaidAt n k w0 R (i + 1) w) (hR : R = w0.heap.size) :
    LaidAt n k w0 R i ((w.setCell ⟨R, i, none⟩ (.int .u8 (((n / 256 ^ (k - (i + 1)) : Nat) : Int) % 256))).setCell ⟨R + 1 + 1, 0, none⟩ (.int .i64 (((n / 256 ^ (k - (i + 1)) : Nat) : Int) / 256))) := by
  have hle := h.le
  refine ⟨?_, ?_, ?_, ?_, ?_, ?_, by omega⟩
  · simp [go_sem, h.list]
  · rw [World.cell?_setCell_same' _ _ _ (by simp [go_sem, h.left])]
    congr 2
    have : k - i = (k - (i + 1)) + 1 := by omega
    rw [this, Nat.pow_succ, ← Nat.div_div_eq_div_mul]
    simp
  · simp [h.fleft]
  · intro j hj
    by_cases e : j = i
    · subst e
      have hr := h.row j hj
      have : k - (j + 1) = k - 1 - j := by omega
      simp [go_sem, hr, byteAt, this]
    · have hr := h.row j hj
      have hij : (j < i + 1) = (j < i) := by simp; omega
      simp only [hij] at hr
      rw [← hr]
      simp [go_sem, e]
  · intro j hj
    simp [h.frow j hj]
  · exact (h.below.setCell (p := ⟨R, i, none⟩) (Nat.le_refl _) _).setCell (p := ⟨R + 1 + 1, 0, none⟩) (by simp; omega) _

theorem LaidAt.start (n k : Nat) (w : World) :
    LaidAt n k w w.heap.size k (((w.alloc (.cells (madeCells #[.int .u8 0] k) 5)).alloc (.cells #[.slice (some ⟨w.heap.size, 0, none⟩) k k] 110)).alloc (.cells #[.int .i64 (n : Int)] 3)) := by
  refine ⟨by go_simp, ?_, by go_simp, ?_, ?_, (((Below.refl _ _).alloc (Nat.le_refl _) _).alloc (by simp) _).alloc (by simp; omega) _, Nat.le_refl _⟩
  · simp; go_simp
  · intro j hj
    rw [if_pos hj]
    exact (((World.rowIs_made w (.int .u8 0) k 5).alloc _).alloc _).cell hj
  · intro j hj
    exact (((World.rowIs_made w (.int .u8 0) k 5).alloc _).alloc _).frozen j

set_option maxRecDepth 100000 in
set_option maxHeartbeats 1000000 in
theorem laid_any (n k : Nat) (w : World) (hn : n ≤ 281474976710655) (hk1 : 1 ≤ k) (hk : k ≤ 8) :
    Calls Tryz.prog 174 #[.int .i64 (n : Int), .int .i64 (k : Int)] w fun e w' => e = .returned (.string ⟨(beL n k).toArray⟩) ∧ Below w.heap.size w w' := by
  have hmf : ∀ (fn : Fn) (first cap : Array Value) (w : World), (Instr.makeFunc fn first cap).run Tryz.prog w = .ok (.func fn first cap) w := fun _ _ _ _ => rfl
  have hmk := run_make_row' (P := Tryz.prog) 110 5 (.int .u8 0) 1 Tryz.underlying110 u8_info rfl .i64 .i64 k (by omega) (by omega)
  have hst := LaidAt.start n k w
  go_enter Tryz.func174, Tryz.ntmps174
  go_wp2
  go_loopw [8] (fun i wr => ∃ j : Nat, i = .int .i64 ((j : Int) - 1) ∧ LaidAt n k w w.heap.size j wr) (fun i _ => (intOf i + 1).toNat)
  case atStart => exact ⟨k, rfl, hst⟩
  case round =>
    obtain ⟨j, rfl, hL⟩ := hrel
    clear hst hmk
    cases j with
    | zero =>
      have c0 := hL.list
      have hcv := run_convert_bytes_back (P := Tryz.prog) wr 110 9 5 ⟨w.heap.size, 0, none⟩ k (beL n k) Tryz.underlying110 Tryz.underlying5 Tryz.underlying9 (fun j hj => by
        have hj' : j < k := by rw [beL_length] at hj; exact hj
        have hr := hL.row j hj'
        have hlt : byteAt n k j % 256 = byteAt n k j := by unfold byteAt; simp
        rcases j with _ | j <;> simp [beL, Addr.add, hr, hlt])
      rw [beL_length] at hcv
      have hb := hL.below
      go_wp2
      go_ret
      exact ⟨rfl, hb⟩
    | succ i =>
      have hle := hL.le
      have c0 := hL.list
      have c1 := hL.left
      have f1 := hL.fleft
      have c2 := hL.row i (by omega)
      have f2 := hL.frow i (by omega)
      have hx : n / 256 ^ (k - (i + 1)) ≤ 281474976710655 := Nat.le_trans (Nat.div_le_self _ _) hn
      have hS := hL.step rfl
      generalize n / 256 ^ (k - (i + 1)) = x at *
      go_wp2_with fail
      refine (lay_any _ _ i k k _ _ _ _ _ (by omega) (by omega) (by omega) (by omega) hk c0 c1 c2 f1 f2 (by omega)).mono ?_
      rintro e w' ⟨⟨v, rfl⟩, rfl⟩
      generalize (wr.setCell ⟨w.heap.size, i, none⟩ (.int .u8 ((x : Int) % 256))).setCell ⟨w.heap.size + 1 + 1, 0, none⟩ (.int .i64 ((x : Int) / 256)) = wn at *
      clear c0 c1 c2 f1 f2 hL
      go_wp2
      go_roundw
      case rel => exact ⟨i, by go_num, hS⟩
      case measure => simp [intOf]
end Go.Proofs.YtmbmolgkccjedaaGreatDoor
