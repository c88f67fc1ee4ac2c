/- shown of the statements' package 17: some frames that are known. -/
import Derived.Test.YtdlkmdjhjdpmeaaGreatDoorFCut
import Derived.Test.YtdlkmdjhjdpmeaaGreatDoorFRead
set_option linter.unusedVariables false
set_option linter.unusedSimpArgs false
namespace Go.Proofs.YtdlkmdjhjdpmeaaGreatDoor
open Go.RowKit

def shR : Rc := ⟨3, 258, ⟨#[]⟩⟩
def shS : ByteArray := ⟨#[225, 3, 0, 0, 0, 0, 1, 2, 0, 0, 250, 153, 123, 45]⟩
def shT : ByteArray := (⟨#[97]⟩ ++ shS) ++ ⟨#[98]⟩
def shU : ByteArray := (shS ++ shS) ++ ⟨#[0]⟩
theorem shS_fr : frL shR = shS.data.toList := by decide +kernel
theorem sh_enc : fencR shR = (shS, 0) := by
  have h : rcB shR = true := by decide
  unfold fencR
  rw [if_pos h, shS_fr]
theorem sh_enc0 : fencR zeroRc = (⟨#[]⟩, 170) := by
  unfold fencR
  rw [if_neg (by rw [zero_wrong]; decide)]
theorem sh_at (s : ByteArray) (a : Nat) (h : shS.data.toList <+: s.data.toList.drop a) : FrAt s a shR := by
  refine ⟨by omega, by decide, ?_⟩
  rw [shS_fr]
  simpa using h
theorem sh_dec : decR shT 1 = (shR, 15, true) := by
  have h := decR_some (decO_some.2 (sh_at shT 1 (by decide)))
  exact h
theorem sh_dec0 : decR ⟨#[]⟩ 0 = (zeroRc, 0, false) := by
  refine decR_none (decO_none.2 ?_)
  rintro r ⟨_, _, h⟩
  have h1 := h.length_le
  rw [frL_length] at h1
  simp at h1
theorem sh_scan : ScanOf shU [shR, shR] 28 := by
  have h0 := ((SoFar.nil shU).snoc (sh_at shU 0 (by decide))).snoc (sh_at shU 14 (by decide))
  refine ⟨h0, decO_none.2 ?_⟩
  rintro r ⟨_, _, h⟩
  have h1 := h.length_le
  rw [frL_length] at h1
  have h2 : (shU.data.toList.drop (28 : Int).toNat).length = 1 := by decide
  rw [show ((28 : Nat) : Int) = 28 by rfl, h2] at h1
  omega
theorem sh_s : shS.size = 14 := by decide
theorem sh_t : (shS.extract 0 10).toList = [225, 3, 0, 0, 0, 0, 1, 2, 0, 0] := by decide +kernel
theorem sh_ts : shT.size ≤ 1000000 := by decide
theorem sh_us : shU.size ≤ 1000000 := by decide
theorem sh_fit : shR.data.size ≤ 9223372036854775807 := by decide

set_option maxRecDepth 100000 in
set_option maxHeartbeats 2000000 in
theorem fshown_any (w : World) (hE : FrOK w) :
    Calls Tryz.prog 10 #[] w fun e w' => e = .returned (.bool true) ∧ Below w.heap.size w w' := by
  have hb0 : Below w.heap.size w (w.alloc (.cells #[.int .i64 3, .int .i64 258, .string ⟨#[]⟩] 23)) := (Below.refl _ w).alloc (Nat.le_refl _) _
  have hx0 : Blk (w.alloc (.cells #[.int .i64 3, .int .i64 258, .string ⟨#[]⟩] 23)) w.heap.size 23 #[.int .i64 3, .int .i64 258, .string ⟨#[]⟩] := heap_alloc_new w _
  have hE0 := hE.below hb0
  have hz0 : w.heap.size + 1 = (w.alloc (.cells #[.int .i64 3, .int .i64 258, .string ⟨#[]⟩] 23)).heap.size := by simp
  go_enter Tryz.func10, Tryz.ntmps10
  go_wp2_with fail
  generalize w.alloc (.cells #[.int .i64 3, .int .i64 258, .string ⟨#[]⟩] 23) = w0 at *
  refine (fencode_any shR w0 hE0 sh_fit).mono ?_
  rintro e w1 ⟨rfl, hb1⟩
  rw [sh_enc]
  have hE1 := hE0.below hb1
  have hx1 := hx0.here hb1
  have hb1' := hb0.trans (hb1.mono hb0.size)
  go_wp2_with fail
  refine (decode_any shT 1 w1 hE1 sh_ts).mono ?_
  rintro e w2 ⟨rfl, hb2⟩
  rw [sh_dec]
  have hE2 := hE1.below hb2
  have hx2 := hx1.here hb2
  have hb2' := hb1'.trans (hb2.mono hb1'.size)
  have hb3 : Below w2.heap.size w2 (w2.alloc (.cells #[.int .i64 3, .int .i64 258, .string ⟨#[]⟩] 23)) := (Below.refl _ w2).alloc (Nat.le_refl _) _
  have hy3 : Blk (w2.alloc (.cells #[.int .i64 3, .int .i64 258, .string ⟨#[]⟩] 23)) w2.heap.size 23 #[.int .i64 3, .int .i64 258, .string ⟨#[]⟩] := heap_alloc_new w2 _
  have hx3 := hx2.here hb3
  have hE3 := hE2.below hb3
  have hb3' := hb2'.trans (hb3.mono hb2'.size)
  simp only [show shR = ⟨3, 258, ⟨#[]⟩⟩ from rfl]
  clear hb0 hb1 hb2 hb1' hb2' hx0 hx1 hx2 hE0 hE1 hE2
  go_wp2_with fail
  generalize w2.alloc (.cells #[.int .i64 3, .int .i64 258, .string ⟨#[]⟩] 23) = w3 at *
  refine (scan_any shU w3 hE3 sh_us).mono ?_
  rintro e w4 ⟨l, n, v, hs, rfl, hv, hb4⟩
  obtain ⟨rfl, rfl⟩ := hs.one sh_scan
  obtain ⟨A, c, rfl, hc, _⟩ := hv
  have hE4 := hE3.below hb4
  have hx4 := hx3.here hb4
  have hy4 := hy3.here hb4
  have hb4' := hb3'.trans (hb4.mono hb3'.size)
  clear hb3 hb4 hb3' hx3 hy3 hE3 hs
  go_wp2_with fail
  refine (fencode_any zeroRc w4 hE4 (by decide)).mono ?_
  rintro e w5 ⟨rfl, hb5⟩
  rw [sh_enc0]
  have hE5 := hE4.below hb5
  have hx5 := hx4.here hb5
  have hy5 := hy4.here hb5
  have hb5' := hb4'.trans (hb5.mono hb4'.size)
  clear hb5 hb4' hx4 hy4 hE4
  go_wp2_with fail
  refine (decode_any ⟨#[]⟩ 0 w5 hE5 (by decide)).mono ?_
  rintro e w6 ⟨rfl, hb6⟩
  rw [sh_dec0]
  have hx6 := hx5.here hb6
  have hy6 := hy5.here hb6
  have hb6' := hb5'.trans (hb6.mono hb5'.size)
  have a0 := hx6.cell 0
  have a1 := hx6.cell 1
  have a2 := hx6.cell 2
  have b0 := hy6.cell 0
  have b1 := hy6.cell 1
  have b2 := hy6.cell 2
  simp only [List.getElem?_toArray, List.getElem?_cons_zero, List.getElem?_cons_succ] at a0 a1 a2 b0 b1 b2
  have hlt1 : w.heap.size < w6.heap.size := lt_of_heap hx6
  have hlt2 : w2.heap.size < w6.heap.size := lt_of_heap hy6
  have q1 := sh_s
  have q2 := sh_t
  simp only [show zeroRc = ⟨0, 0, ⟨#[]⟩⟩ from rfl]
  clear hb6 hb5' hx5 hy5 hE5
  go_wp2_with fail
  go_ret
  exact ⟨rfl, hb6'.alloc hb6'.size _⟩
end Go.Proofs.YtdlkmdjhjdpmeaaGreatDoor
