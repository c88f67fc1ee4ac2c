/- The walk of FrameSizes. -/
import Derived.Test.YtdlkmdjhjdpmeaaGreatDoorFLaw
set_option linter.unusedVariables false
set_option linter.unusedSimpArgs false
namespace Go.Proofs.YtdlkmdjhjdpmeaaGreatDoor
open Go.RowKit

set_option maxRecDepth 100000 in
set_option maxHeartbeats 4000000 in
theorem frameSizes_walk (r : Rc) (w : World) (hE : FrOK w) (hs : r.data.size ≤ maxLen) :
    Calls Tryz.prog 9 #[.agg #[.int .i64 r.op, .int .i64 r.id, .string r.data]] w fun e w' => e = .returned (.bool true) ∧ Below w.heap.size w w' := by
  have hb0 := below_new w (.cells #[.int .i64 r.op, .int .i64 r.id, .string r.data] 23)
  have hx0 := rec_new r w
  have hE0 := hE.below hb0
  go_enter Tryz.func9, Tryz.ntmps9
  go_wp2_with fail
  generalize w.alloc (.cells #[.int .i64 r.op, .int .i64 r.id, .string r.data] 23) = w0 at *
  refine (fshown_any w0 hE0).mono ?_
  rintro e w1 ⟨rfl, hb1⟩
  have hx1 := hx0.here hb1
  have hE1 := hE0.below hb1
  have hb1' := hb0.trans (hb1.mono hb0.size)
  obtain ⟨a0, a1, a2⟩ := hx1.three
  have hb2 := below_new w1 (.cells #[.int .i64 r.op, .int .i64 r.id, .string r.data] 23)
  have hx2 := hx1.here hb2
  have hE2 := hE1.below hb2
  have hb2' := hb1'.trans (hb2.mono hb1'.size)
  have hr := rec_row r w1 hs
  clear hb0 hb1 hx0 hE0
  go_wp2_with fail
  generalize w1.alloc (.cells #[.int .i64 r.op, .int .i64 r.id, .string r.data] 23) = w2 at *
  refine (flcuts_any [r] _ 1 w2 (rec_len r) hr).mono ?_
  rintro e w3 ⟨v, rfl, hv, hb3⟩
  have hx3 := hx2.here hb3
  have hE3 := hE2.below hb3
  have hb3' := hb2'.trans (hb3.mono hb2'.size)
  obtain ⟨A, c, rfl, hc, hcell⟩ := hv
  obtain ⟨g, rfl, hg, k0, k1, k2⟩ := hcell 0 (cutC r) rfl
  have hfit := cutC_fit r
  clear hcell hc a0 a1 a2 hr hb2 hb3 hx1 hx2 hE1 hE2 hb1' hb2'
  simp only [cuts_one, List.length_cons, List.length_nil, Nat.zero_add] at *
  generalize cutC r = q at *
  rw [Nat.zero_mul] at k0 k1 k2
  obtain ⟨a0, a1, a2⟩ := hx3.three
  have f0 := hx3.frozen 0
  have f1 := hx3.frozen 1
  have f2 := hx3.frozen 2
  have hz3 : w.heap.size < w3.heap.size := lt_of_heap hx3
  obtain ⟨hx4, hb4⟩ := rec_box (x := .int .i64 q.op) (y := .int .i64 q.id) (z := .string q.data) hx3 hb3'
  go_wp2_with fail
  have hE4 := hE.below hb4
  generalize (((w3.setCell ⟨w.heap.size, 0, none⟩ (.int .i64 q.op)).setCell ⟨w.heap.size, 1, none⟩ (.int .i64 q.id)).setCell ⟨w.heap.size, 2, none⟩ (.string q.data)) = w4 at *
  clear a0 a1 a2 f0 f1 f2 hx3 hE3 hb3' hz3 k0 k1 k2
  refine (fencode_any q w4 hE4 (by omega)).mono ?_
  rintro e w5 ⟨rfl, hb5⟩
  have hx5 := hx4.here hb5
  have hE5 := hE4.below hb5
  have hb5' := hb4.trans (hb5.mono hb4.size)
  obtain ⟨a0, a1, a2⟩ := hx5.three
  clear hx4 hE4 hb4 hb5
  cases hq : rcB q
  · rw [enc_no hq]
    go_wp2_with fail
    refine (fright_any q w5 (by omega)).mono ?_
    rintro e w6 ⟨rfl, hb6⟩
    rw [hq]
    go_wp2_with fail
    go_ret
    exact ⟨rfl, hb5'.trans (hb6.mono hb5'.size)⟩
  · rw [enc_yes hq]
    go_wp2_with fail
    refine (decode_any _ 0 w5 hE5 (frS_le hq)).mono ?_
    rintro e w6 ⟨rfl, hb6⟩
    rw [frS_dec hq]
    have hx6 := hx5.here hb6
    have hb6' := hb5'.trans (hb6.mono hb5'.size)
    have hb7 := below_new w6 (.cells #[.int .i64 q.op, .int .i64 q.id, .string q.data] 23)
    have hb7' := hb6'.trans (hb7.mono hb6'.size)
    have hx7 := hx6.here hb7
    have hy7 := rec_new q w6
    clear hb6 hb7 hb6' hb5' hx6 hx5 a0 a1 a2
    obtain ⟨a0, a1, a2⟩ := hx7.three
    go_wp2_with fail
    generalize w6.alloc (.cells #[.int .i64 q.op, .int .i64 q.id, .string q.data] 23) = w7 at *
    refine (fright_any q w7 (by omega)).mono ?_
    rintro e w8 ⟨rfl, hb8⟩
    rw [hq]
    obtain ⟨b0, b1, b2⟩ := (hx7.here hb8).three
    obtain ⟨c0, c1, c2⟩ := (hy7.here hb8).three
    have hsz := frS_size q
    have hw : IntKind.i64.wrap (14 + (q.data.size : Int)) = 14 + (q.data.size : Int) := by rw [IntKind.wrap_i64]; omega
    generalize (⟨(frL q).toArray⟩ : ByteArray) = S at *
    have hsi : (S.size : Int) = 14 + (q.data.size : Int) := by omega
    have hdi : decide ((14 + (q.data.size : Int)) = (S.size : Int)) = true := by simp; omega
    clear hx7 hy7 a0 a1 a2 hsz
    go_wp2_with fail
    go_ret
    exact ⟨rfl, hb7'.trans (hb8.mono hb7'.size)⟩
end Go.Proofs.YtdlkmdjhjdpmeaaGreatDoor
