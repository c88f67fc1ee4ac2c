/- The walk of FrameCodes. -/
import Derived.Test.YtdlkmdjhjdpmeaaGreatDoorFLaw
import Derived.Deep.RegionHeld3
import Derived.Deep.DrawnRows
set_option linter.unusedVariables false
set_option linter.unusedSimpArgs false
namespace Go.Proofs.YtdlkmdjhjdpmeaaGreatDoor
open Go.RowKit
attribute [local go_sem ↓] Go.wp_at_zero Go.wp_at_succ

set_option maxRecDepth 100000 in
set_option maxHeartbeats 4000000 in
theorem frameCodes_walk (r : Rc) (s : ByteArray) (at_ : Int) (w : World) (hE : FrOK w) (hs : r.data.size ≤ maxLen) (hS : s.size ≤ maxLen) (hat : (Lit.int .i64 at_).wf = true) :
    Calls Tryz.prog 3 #[.agg #[.int .i64 r.op, .int .i64 r.id, .string r.data], .string s, .int .i64 at_] w fun e w' => e = .returned (.bool true) ∧ Below w.heap.size w w' := by
  have hb0 := below_new w (.cells #[.int .i64 r.op, .int .i64 r.id, .string r.data] 23)
  have hx0 := rec_new r w
  have hE0 := hE.below hb0
  go_enter Tryz.func3, Tryz.ntmps3
  go_wp2_with fail
  generalize w.alloc (.cells #[.int .i64 r.op, .int .i64 r.id, .string r.data] 23) = w0 at *
  refine (fshown_any w0 hE0).mono ?_
  rintro e w1 ⟨rfl, hb1⟩
  have hx1 := hx0.here hb1
  have hE1 := hE0.below hb1
  have hb1' := hb0.trans (hb1.mono hb0.size)
  obtain ⟨a0, a1, a2⟩ := hx1.three
  have hb2 := below_new w1 (.cells #[.int .i64 r.op, .int .i64 r.id, .string r.data] 23)
  have hx2 := hx1.here hb2
  have hE2 := hE1.below hb2
  have hb2' := hb1'.trans (hb2.mono hb1'.size)
  have hr := rec_row r w1 hs
  clear hb0 hb1 hx0 hE0
  go_wp2_with fail
  generalize w1.alloc (.cells #[.int .i64 r.op, .int .i64 r.id, .string r.data] 23) = w2 at *
  refine (flcuts_any [r] _ 1 w2 (rec_len r) hr).mono ?_
  rintro e w3 ⟨v, rfl, hv, hb3⟩
  have hx3 := hx2.here hb3
  have hE3 := hE2.below hb3
  have hb3' := hb2'.trans (hb3.mono hb2'.size)
  obtain ⟨A, c, rfl, hc, hcell⟩ := hv
  obtain ⟨g, rfl, hg, k0, k1, k2⟩ := hcell 0 (cutC r) rfl
  have hfit := cutC_fit r
  clear hcell hc a0 a1 a2 hr hb2 hb3 hx1 hx2 hE1 hE2 hb1' hb2'
  simp only [cuts_one, List.length_cons, List.length_nil, Nat.zero_add] at *
  generalize cutC r = q at *
  rw [Nat.zero_mul] at k0 k1 k2
  obtain ⟨a0, a1, a2⟩ := hx3.three
  have f0 := hx3.frozen 0
  have f1 := hx3.frozen 1
  have f2 := hx3.frozen 2
  have hz3 : w.heap.size < w3.heap.size := lt_of_heap hx3
  obtain ⟨hx4, hb4⟩ := rec_box (x := .int .i64 q.op) (y := .int .i64 q.id) (z := .string q.data) hx3 hb3'
  go_wp2_with fail
  have hE4 := hE.below hb4
  generalize (((w3.setCell ⟨w.heap.size, 0, none⟩ (.int .i64 q.op)).setCell ⟨w.heap.size, 1, none⟩ (.int .i64 q.id)).setCell ⟨w.heap.size, 2, none⟩ (.string q.data)) = w4 at *
  clear a0 a1 a2 f0 f1 f2 hx3 hE3 hb3' hz3 k0 k1 k2
  refine (flcut_any s w4 hS).mono ?_
  rintro e w4' ⟨rfl, rfl⟩
  have hT : (cutT s).size ≤ 1000000 := Nat.le_trans (cutT_size s) (by omega)
  generalize cutT s = T at *
  obtain ⟨a0, a1, a2⟩ := hx4.three
  go_wp2_with fail
  refine (fencode_any q w4 hE4 (by omega)).mono ?_
  rintro e w5 ⟨rfl, hb5⟩
  have hx5 := hx4.here hb5
  have hE5 := hE4.below hb5
  have hb5' := hb4.trans (hb5.mono hb4.size)
  clear hx4 hE4 hb4 hb5 a0 a1 a2
  obtain ⟨a0, a1, a2⟩ := hx5.three
  obtain ⟨P, E0, hP⟩ : ∃ P e0, fencR q = (P, e0) := ⟨_, _, rfl⟩
  obtain ⟨Q, hQ⟩ : ∃ Q, fencR q = (Q, E0) := ⟨_, hP⟩
  have hPQ : (P.toList == Q.toList) = true := by
    have h := hP.symm.trans hQ
    rw [Prod.mk.injEq] at h
    rw [h.1]; exact beq_self_eq_true _
  have HQ := Lib.hid hQ
  have HPQ := Lib.hid hPQ
  rw [hP]
  clear hP hQ hPQ
  go_wp2_with fail
  refine (rencode_any q w5 (by omega)).mono ?_
  rintro e w6 ⟨rfl, hb6⟩
  have hx6 := hx5.here hb6
  have hE6 := hE5.below hb6
  have hb6' := hb5'.trans (hb6.mono hb5'.size)
  clear hx5 hE5 hb5' hb6 a0 a1 a2
  rw [HQ.out]
  clear HQ
  go_wp2_with fail
  refine (decode_any T at_ w6 hE6 hT).mono ?_
  rintro e w7 ⟨rfl, hb7⟩
  have hx7 := hx6.here hb7
  have hb7' := hb6'.trans (hb7.mono hb6'.size)
  have hd := decR T at_
  obtain ⟨D, hD⟩ : ∃ D, decR T at_ = D := ⟨_, rfl⟩
  have HD := Lib.hid hD
  rw [hD]
  obtain ⟨⟨op, id, data⟩, n, b⟩ := D
  have hb8 := below_new w7 (.cells #[.int .i64 op, .int .i64 id, .string data] 23)
  have hx8 := hx7.here hb8
  have hy8 := rec_new ⟨op, id, data⟩ w7
  have hb8' := hb7'.trans (hb8.mono hb7'.size)
  clear hx6 hE6 hb6' hb7 hb7' hb8 hx7 hd hD
  go_wp2_with fail
  generalize w7.alloc (.cells #[.int .i64 op, .int .i64 id, .string data] 23) = w8 at *
  refine (rdecode_any T at_ w8 hT (bounds_i64 hat).2).mono ?_
  rintro e w9 ⟨rfl, hb9⟩
  rw [HD.out]
  have hx9 := hx8.here hb9
  have hy9 := hy8.here hb9
  have hb9' := hb8'.trans (hb9.mono hb8'.size)
  have hb10 := below_new w9 (.cells #[.int .i64 op, .int .i64 id, .string data] 23)
  have hz10 := rec_new ⟨op, id, data⟩ w9
  have hx10 := hx9.here hb10
  have hy10 := hy9.here hb10
  have hb10' := hb9'.trans (hb10.mono hb9'.size)
  clear hx8 hy8 hb8' hb9 hb9' hx9 hy9 hb10 HD
  go_wp2_with fail
  generalize w9.alloc (.cells #[.int .i64 op, .int .i64 id, .string data] 23) = w10 at *
  obtain ⟨a0, a1, a2⟩ := hx10.three
  obtain ⟨c0, c1, c2⟩ := hy10.three
  obtain ⟨d0, d1, d2⟩ := hz10.three
  have hcum : Below w10.heap.size w10 w10.drew := (Below.refl w10.heap.size w10).drew
  have hxl := hx10.lt
  have hyl := hy10.lt
  have hzl := hz10.lt
  obtain ⟨u, hu⟩ : ∃ u, rcB q = u := ⟨_, rfl⟩
  have HU := Lib.hid hu
  clear hu hx10 hy10 hz10
  have E1 := HPQ.out
  have E2 := eq_bool u
  have E3 := eq_rec op id data
  have E4 := eq_bool b
  go_region_held3 (fun w' => w'.cell? ⟨w.heap.size, 0, none⟩ = some (.int .i64 q.op) ∧ w'.cell? ⟨w.heap.size, 1, none⟩ = some (.int .i64 q.id) ∧ w'.cell? ⟨w.heap.size, 2, none⟩ = some (.string q.data) ∧ w'.cell? ⟨w7.heap.size, 0, none⟩ = some (.int .i64 op) ∧ w'.cell? ⟨w7.heap.size, 1, none⟩ = some (.int .i64 id) ∧ w'.cell? ⟨w7.heap.size, 2, none⟩ = some (.string data) ∧ w'.cell? ⟨w9.heap.size, 0, none⟩ = some (.int .i64 op) ∧ w'.cell? ⟨w9.heap.size, 1, none⟩ = some (.int .i64 id) ∧ w'.cell? ⟨w9.heap.size, 2, none⟩ = some (.string data))
    (first
      | exact ⟨(hcum.cell (p := ⟨w.heap.size, 0, none⟩) hxl).trans a0, (hcum.cell (p := ⟨w.heap.size, 1, none⟩) hxl).trans a1, (hcum.cell (p := ⟨w.heap.size, 2, none⟩) hxl).trans a2, (hcum.cell (p := ⟨w7.heap.size, 0, none⟩) hyl).trans c0, (hcum.cell (p := ⟨w7.heap.size, 1, none⟩) hyl).trans c1, (hcum.cell (p := ⟨w7.heap.size, 2, none⟩) hyl).trans c2, (hcum.cell (p := ⟨w9.heap.size, 0, none⟩) hzl).trans d0, (hcum.cell (p := ⟨w9.heap.size, 1, none⟩) hzl).trans d1, (hcum.cell (p := ⟨w9.heap.size, 2, none⟩) hzl).trans d2⟩
      | go_keep)
    (first
      | ((go_at_call 17; refine (fright_any q _ (by omega)).mono ?_; rintro e v1 ⟨rfl, hb1⟩; rw [HU.out]; replace hcum := hcum.trans (hb1.mono hcum.size); clear hb1))
      | ((go_at_call 18; refine (frright_any q _ (by omega)).mono ?_; rintro e v1 ⟨rfl, hb1⟩; rw [HU.out]; replace hcum := hcum.trans (hb1.mono hcum.size); clear hb1)))
  go_wp2_with fail
  go_ret
  exact ⟨rfl, hb10'.trans (hcum.mono hb10'.size)⟩
end Go.Proofs.YtdlkmdjhjdpmeaaGreatDoor
