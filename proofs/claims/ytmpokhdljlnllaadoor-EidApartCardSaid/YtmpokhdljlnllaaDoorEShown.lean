/- What shown, of the statements' package 06, answers. -/
import Derived.Test.YtmpokhdljlnllaaDoorELaw
set_option linter.unusedVariables false
set_option linter.unusedSimpArgs false
namespace Go.Proofs.YtmpokhdljlnllaaDoor
open Go.RowKit

theorem sh_p1 (W : World) (hW : EnvN W) : Calls Tryd.prog 17 #[.string ⟨#[100, 116, 110, 58, 47, 47, 101, 97, 114, 116, 104, 47, 110, 101, 119, 115]⟩] W fun e w' => e = .returned (.tuple #[.agg #[.int .i64 1, .string ⟨#[101, 97, 114, 116, 104]⟩, .string ⟨#[110, 101, 119, 115]⟩, .int .i64 0, .int .i64 0], .int .i64 0]) ∧ Below W.heap.size W w' := by
  have h := parse_any ⟨#[100, 116, 110, 58, 47, 47, 101, 97, 114, 116, 104, 47, 110, 101, 119, 115]⟩ (by decide) W hW
  rw [show nmX (prsR (⟨#[100, 116, 110, 58, 47, 47, 101, 97, 114, 116, 104, 47, 110, 101, 119, 115]⟩ : ByteArray).data.toList) = .agg #[.int .i64 1, .string ⟨#[101, 97, 114, 116, 104]⟩, .string ⟨#[110, 101, 119, 115]⟩, .int .i64 0, .int .i64 0] by kernel_rfl, show erX (prsR (⟨#[100, 116, 110, 58, 47, 47, 101, 97, 114, 116, 104, 47, 110, 101, 119, 115]⟩ : ByteArray).data.toList) = 0 by kernel_rfl] at h
  exact h
theorem sh_p2 (W : World) (hW : EnvN W) : Calls Tryd.prog 17 #[.string ⟨#[105, 112, 110, 58, 52, 46, 55]⟩] W fun e w' => e = .returned (.tuple #[.agg #[.int .i64 2, .string ⟨#[]⟩, .string ⟨#[]⟩, .int .i64 4, .int .i64 7], .int .i64 0]) ∧ Below W.heap.size W w' := by
  have h := parse_any ⟨#[105, 112, 110, 58, 52, 46, 55]⟩ (by decide) W hW
  rw [show nmX (prsR (⟨#[105, 112, 110, 58, 52, 46, 55]⟩ : ByteArray).data.toList) = .agg #[.int .i64 2, .string ⟨#[]⟩, .string ⟨#[]⟩, .int .i64 4, .int .i64 7] by kernel_rfl, show erX (prsR (⟨#[105, 112, 110, 58, 52, 46, 55]⟩ : ByteArray).data.toList) = 0 by kernel_rfl] at h
  exact h
theorem sh_p3 (W : World) (hW : EnvN W) : Calls Tryd.prog 17 #[.string ⟨#[100, 116, 110, 58, 110, 111, 110, 101]⟩] W fun e w' => e = .returned (.tuple #[.agg #[.int .i64 0, .string ⟨#[]⟩, .string ⟨#[]⟩, .int .i64 0, .int .i64 0], .int .i64 0]) ∧ Below W.heap.size W w' := by
  have h := parse_any ⟨#[100, 116, 110, 58, 110, 111, 110, 101]⟩ (by decide) W hW
  rw [show nmX (prsR (⟨#[100, 116, 110, 58, 110, 111, 110, 101]⟩ : ByteArray).data.toList) = .agg #[.int .i64 0, .string ⟨#[]⟩, .string ⟨#[]⟩, .int .i64 0, .int .i64 0] by kernel_rfl, show erX (prsR (⟨#[100, 116, 110, 58, 110, 111, 110, 101]⟩ : ByteArray).data.toList) = 0 by kernel_rfl] at h
  exact h
theorem sh_p4 (W : World) (hW : EnvN W) : Calls Tryd.prog 17 #[.string ⟨#[105, 112, 110, 58, 48, 52, 46, 55]⟩] W fun e w' => e = .returned (.tuple #[.agg #[.int .i64 0, .string ⟨#[]⟩, .string ⟨#[]⟩, .int .i64 0, .int .i64 0], .int .i64 60]) ∧ Below W.heap.size W w' := by
  have h := parse_any ⟨#[105, 112, 110, 58, 48, 52, 46, 55]⟩ (by decide) W hW
  rw [show nmX (prsR (⟨#[105, 112, 110, 58, 48, 52, 46, 55]⟩ : ByteArray).data.toList) = .agg #[.int .i64 0, .string ⟨#[]⟩, .string ⟨#[]⟩, .int .i64 0, .int .i64 0] by kernel_rfl, show erX (prsR (⟨#[105, 112, 110, 58, 48, 52, 46, 55]⟩ : ByteArray).data.toList) = 60 by kernel_rfl] at h
  exact h
theorem sh_p5 (W : World) (hW : EnvN W) : Calls Tryd.prog 17 #[.string ⟨#[105, 112, 110, 58, 48, 46, 55]⟩] W fun e w' => e = .returned (.tuple #[.agg #[.int .i64 0, .string ⟨#[]⟩, .string ⟨#[]⟩, .int .i64 0, .int .i64 0], .int .i64 60]) ∧ Below W.heap.size W w' := by
  have h := parse_any ⟨#[105, 112, 110, 58, 48, 46, 55]⟩ (by decide) W hW
  rw [show nmX (prsR (⟨#[105, 112, 110, 58, 48, 46, 55]⟩ : ByteArray).data.toList) = .agg #[.int .i64 0, .string ⟨#[]⟩, .string ⟨#[]⟩, .int .i64 0, .int .i64 0] by kernel_rfl, show erX (prsR (⟨#[105, 112, 110, 58, 48, 46, 55]⟩ : ByteArray).data.toList) = 60 by kernel_rfl] at h
  exact h
theorem sh_h (W : World) (hW : EnvN W) : Calls Tryd.prog 19 #[.agg #[.int .i64 1, .string ⟨#[101, 97, 114, 116, 104]⟩, .string ⟨#[110, 101, 119, 115]⟩, .int .i64 0, .int .i64 0]] W fun e w' => e = .returned (.tuple #[.agg #[.int .i64 1, .string ⟨#[101, 97, 114, 116, 104]⟩, .string ⟨#[]⟩, .int .i64 0, .int .i64 0], .int .i64 0]) ∧ Below W.heap.size W w' := by
  have h := homeE_any 1 ⟨#[101, 97, 114, 116, 104]⟩ ⟨#[110, 101, 119, 115]⟩ 0 0 W hW I64_zero I64_zero (by decide)
  rw [show homV 1 ⟨#[101, 97, 114, 116, 104]⟩ ⟨#[110, 101, 119, 115]⟩ 0 0 = .agg #[.int .i64 1, .string ⟨#[101, 97, 114, 116, 104]⟩, .string ⟨#[]⟩, .int .i64 0, .int .i64 0] by kernel_rfl, show erS (nmO 1 ⟨#[101, 97, 114, 116, 104]⟩ ⟨#[110, 101, 119, 115]⟩ 0 0) = 0 by kernel_rfl] at h
  exact h
theorem sh_t (W : World) (hW : EnvN W) : Calls Tryd.prog 15 #[.agg #[.int .i64 1, .string ⟨#[101, 97, 114, 116, 104]⟩, .string ⟨#[]⟩, .int .i64 0, .int .i64 0]] W fun e w' => e = .returned (.tuple #[.string ⟨#[100, 116, 110, 58, 47, 47, 101, 97, 114, 116, 104, 47]⟩, .int .i64 0]) ∧ Below W.heap.size W w' := by
  have h := print_any 1 ⟨#[101, 97, 114, 116, 104]⟩ ⟨#[]⟩ 0 0 W hW I64_zero I64_zero
  rw [show txS (nmO 1 ⟨#[101, 97, 114, 116, 104]⟩ ⟨#[]⟩ 0 0) = ⟨#[100, 116, 110, 58, 47, 47, 101, 97, 114, 116, 104, 47]⟩ by kernel_rfl, show erS (nmO 1 ⟨#[101, 97, 114, 116, 104]⟩ ⟨#[]⟩ 0 0) = 0 by kernel_rfl] at h
  exact h

set_option maxRecDepth 100000 in
set_option maxHeartbeats 4000000 in
theorem shown_any (w : World) (hE : EnvN w) :
    Calls Tryd.prog 8 #[] w fun e w' => e = .returned (.bool true) ∧ Below w.heap.size w w' := by
  have HE := Lib.hid hE
  clear hE
  have e1 : ∀ W : World, (binOp .eql 23 (.agg #[.int .i64 1, .string ⟨#[101, 97, 114, 116, 104]⟩, .string ⟨#[110, 101, 119, 115]⟩, .int .i64 0, .int .i64 0]) (.agg #[.int .i64 1, .string ⟨#[101, 97, 114, 116, 104]⟩, .string ⟨#[110, 101, 119, 115]⟩, .int .i64 0, .int .i64 0])).run Tryd.prog W = .ok (.bool true) W := fun W => by rw [nm_eql, nmE_iff.2 ⟨rfl, rfl, rfl, rfl, rfl⟩]
  have e2 : ∀ W : World, (binOp .eql 23 (.agg #[.int .i64 2, .string ⟨#[]⟩, .string ⟨#[]⟩, .int .i64 4, .int .i64 7]) (.agg #[.int .i64 2, .string ⟨#[]⟩, .string ⟨#[]⟩, .int .i64 4, .int .i64 7])).run Tryd.prog W = .ok (.bool true) W := fun W => by rw [nm_eql, nmE_iff.2 ⟨rfl, rfl, rfl, rfl, rfl⟩]
  have e3 : ∀ W : World, (binOp .eql 23 (.agg #[.int .i64 0, .string ⟨#[]⟩, .string ⟨#[]⟩, .int .i64 0, .int .i64 0]) (.agg #[.int .i64 0, .string ⟨#[]⟩, .string ⟨#[]⟩, .int .i64 0, .int .i64 0])).run Tryd.prog W = .ok (.bool true) W := fun W => by rw [nm_eql, nmE_iff.2 ⟨rfl, rfl, rfl, rfl, rfl⟩]
  go_enter Tryd.func8, Tryd.ntmps8
  go_wp2_with fail
  refine (sh_p1 _ HE.out).mono ?_
  rintro e w1 ⟨rfl, hb1⟩
  have HB := Lib.hid hb1
  clear hb1
  go_wp2_with fail
  have a0 : (w1.alloc (.cells #[.int .i64 1, .string ⟨#[101, 97, 114, 116, 104]⟩, .string ⟨#[110, 101, 119, 115]⟩, .int .i64 0, .int .i64 0] 23)).cell? ⟨w1.heap.size, 0, none⟩ = some (.int .i64 1) := by go_simp
  have a1 : (w1.alloc (.cells #[.int .i64 1, .string ⟨#[101, 97, 114, 116, 104]⟩, .string ⟨#[110, 101, 119, 115]⟩, .int .i64 0, .int .i64 0] 23)).cell? ⟨w1.heap.size, 1, none⟩ = some (.string ⟨#[101, 97, 114, 116, 104]⟩) := by go_simp
  have a2 : (w1.alloc (.cells #[.int .i64 1, .string ⟨#[101, 97, 114, 116, 104]⟩, .string ⟨#[110, 101, 119, 115]⟩, .int .i64 0, .int .i64 0] 23)).cell? ⟨w1.heap.size, 2, none⟩ = some (.string ⟨#[110, 101, 119, 115]⟩) := by go_simp
  have a3 : (w1.alloc (.cells #[.int .i64 1, .string ⟨#[101, 97, 114, 116, 104]⟩, .string ⟨#[110, 101, 119, 115]⟩, .int .i64 0, .int .i64 0] 23)).cell? ⟨w1.heap.size, 3, none⟩ = some (.int .i64 0) := by go_simp
  have a4 : (w1.alloc (.cells #[.int .i64 1, .string ⟨#[101, 97, 114, 116, 104]⟩, .string ⟨#[110, 101, 119, 115]⟩, .int .i64 0, .int .i64 0] 23)).cell? ⟨w1.heap.size, 4, none⟩ = some (.int .i64 0) := by go_simp
  replace HB := Lib.hid (show Below w.heap.size w (w1.alloc (.cells #[.int .i64 1, .string ⟨#[101, 97, 114, 116, 104]⟩, .string ⟨#[110, 101, 119, 115]⟩, .int .i64 0, .int .i64 0] 23)) from below_alloc_l HB.out)
  generalize hv1 : (w1.alloc (.cells #[.int .i64 1, .string ⟨#[101, 97, 114, 116, 104]⟩, .string ⟨#[110, 101, 119, 115]⟩, .int .i64 0, .int .i64 0] 23)) = v1 at *
  clear hv1
  refine (sh_h _ (HE.out.below HB.out)).mono ?_
  rintro e w2 ⟨rfl, hb2⟩
  replace a0 := (hb2.cell (World.block_lt_of_cell? _ _ a0)).trans a0
  replace a1 := (hb2.cell (World.block_lt_of_cell? _ _ a1)).trans a1
  replace a2 := (hb2.cell (World.block_lt_of_cell? _ _ a2)).trans a2
  replace a3 := (hb2.cell (World.block_lt_of_cell? _ _ a3)).trans a3
  replace a4 := (hb2.cell (World.block_lt_of_cell? _ _ a4)).trans a4
  replace HB := Lib.hid (HB.out.trans (hb2.mono HB.out.size))
  clear hb2
  go_wp2_with fail
  replace a0 : (w2.alloc (.cells #[.int .i64 1, .string ⟨#[101, 97, 114, 116, 104]⟩, .string ⟨#[]⟩, .int .i64 0, .int .i64 0] 23)).cell? ⟨w1.heap.size, 0, none⟩ = some (.int .i64 1) := cell_al a0
  replace a1 : (w2.alloc (.cells #[.int .i64 1, .string ⟨#[101, 97, 114, 116, 104]⟩, .string ⟨#[]⟩, .int .i64 0, .int .i64 0] 23)).cell? ⟨w1.heap.size, 1, none⟩ = some (.string ⟨#[101, 97, 114, 116, 104]⟩) := cell_al a1
  replace a2 : (w2.alloc (.cells #[.int .i64 1, .string ⟨#[101, 97, 114, 116, 104]⟩, .string ⟨#[]⟩, .int .i64 0, .int .i64 0] 23)).cell? ⟨w1.heap.size, 2, none⟩ = some (.string ⟨#[110, 101, 119, 115]⟩) := cell_al a2
  replace a3 : (w2.alloc (.cells #[.int .i64 1, .string ⟨#[101, 97, 114, 116, 104]⟩, .string ⟨#[]⟩, .int .i64 0, .int .i64 0] 23)).cell? ⟨w1.heap.size, 3, none⟩ = some (.int .i64 0) := cell_al a3
  replace a4 : (w2.alloc (.cells #[.int .i64 1, .string ⟨#[101, 97, 114, 116, 104]⟩, .string ⟨#[]⟩, .int .i64 0, .int .i64 0] 23)).cell? ⟨w1.heap.size, 4, none⟩ = some (.int .i64 0) := cell_al a4
  replace HB := Lib.hid (show Below w.heap.size w (w2.alloc (.cells #[.int .i64 1, .string ⟨#[101, 97, 114, 116, 104]⟩, .string ⟨#[]⟩, .int .i64 0, .int .i64 0] 23)) from below_alloc_l HB.out)
  generalize hv2 : (w2.alloc (.cells #[.int .i64 1, .string ⟨#[101, 97, 114, 116, 104]⟩, .string ⟨#[]⟩, .int .i64 0, .int .i64 0] 23)) = v2 at *
  clear hv2
  refine (sh_t _ (HE.out.below HB.out)).mono ?_
  rintro e w3 ⟨rfl, hb3⟩
  replace a0 := (hb3.cell (World.block_lt_of_cell? _ _ a0)).trans a0
  replace a1 := (hb3.cell (World.block_lt_of_cell? _ _ a1)).trans a1
  replace a2 := (hb3.cell (World.block_lt_of_cell? _ _ a2)).trans a2
  replace a3 := (hb3.cell (World.block_lt_of_cell? _ _ a3)).trans a3
  replace a4 := (hb3.cell (World.block_lt_of_cell? _ _ a4)).trans a4
  replace HB := Lib.hid (HB.out.trans (hb3.mono HB.out.size))
  clear hb3
  go_wp2_with fail
  refine (sh_p2 _ (HE.out.below HB.out)).mono ?_
  rintro e w4 ⟨rfl, hb4⟩
  replace a0 := (hb4.cell (World.block_lt_of_cell? _ _ a0)).trans a0
  replace a1 := (hb4.cell (World.block_lt_of_cell? _ _ a1)).trans a1
  replace a2 := (hb4.cell (World.block_lt_of_cell? _ _ a2)).trans a2
  replace a3 := (hb4.cell (World.block_lt_of_cell? _ _ a3)).trans a3
  replace a4 := (hb4.cell (World.block_lt_of_cell? _ _ a4)).trans a4
  replace HB := Lib.hid (HB.out.trans (hb4.mono HB.out.size))
  clear hb4
  go_wp2_with fail
  replace a0 : (w4.alloc (.cells #[.int .i64 2, .string ⟨#[]⟩, .string ⟨#[]⟩, .int .i64 4, .int .i64 7] 23)).cell? ⟨w1.heap.size, 0, none⟩ = some (.int .i64 1) := cell_al a0
  replace a1 : (w4.alloc (.cells #[.int .i64 2, .string ⟨#[]⟩, .string ⟨#[]⟩, .int .i64 4, .int .i64 7] 23)).cell? ⟨w1.heap.size, 1, none⟩ = some (.string ⟨#[101, 97, 114, 116, 104]⟩) := cell_al a1
  replace a2 : (w4.alloc (.cells #[.int .i64 2, .string ⟨#[]⟩, .string ⟨#[]⟩, .int .i64 4, .int .i64 7] 23)).cell? ⟨w1.heap.size, 2, none⟩ = some (.string ⟨#[110, 101, 119, 115]⟩) := cell_al a2
  replace a3 : (w4.alloc (.cells #[.int .i64 2, .string ⟨#[]⟩, .string ⟨#[]⟩, .int .i64 4, .int .i64 7] 23)).cell? ⟨w1.heap.size, 3, none⟩ = some (.int .i64 0) := cell_al a3
  replace a4 : (w4.alloc (.cells #[.int .i64 2, .string ⟨#[]⟩, .string ⟨#[]⟩, .int .i64 4, .int .i64 7] 23)).cell? ⟨w1.heap.size, 4, none⟩ = some (.int .i64 0) := cell_al a4
  have c0 : (w4.alloc (.cells #[.int .i64 2, .string ⟨#[]⟩, .string ⟨#[]⟩, .int .i64 4, .int .i64 7] 23)).cell? ⟨w4.heap.size, 0, none⟩ = some (.int .i64 2) := by go_simp
  have c1 : (w4.alloc (.cells #[.int .i64 2, .string ⟨#[]⟩, .string ⟨#[]⟩, .int .i64 4, .int .i64 7] 23)).cell? ⟨w4.heap.size, 1, none⟩ = some (.string ⟨#[]⟩) := by go_simp
  have c2 : (w4.alloc (.cells #[.int .i64 2, .string ⟨#[]⟩, .string ⟨#[]⟩, .int .i64 4, .int .i64 7] 23)).cell? ⟨w4.heap.size, 2, none⟩ = some (.string ⟨#[]⟩) := by go_simp
  have c3 : (w4.alloc (.cells #[.int .i64 2, .string ⟨#[]⟩, .string ⟨#[]⟩, .int .i64 4, .int .i64 7] 23)).cell? ⟨w4.heap.size, 3, none⟩ = some (.int .i64 4) := by go_simp
  have c4 : (w4.alloc (.cells #[.int .i64 2, .string ⟨#[]⟩, .string ⟨#[]⟩, .int .i64 4, .int .i64 7] 23)).cell? ⟨w4.heap.size, 4, none⟩ = some (.int .i64 7) := by go_simp
  replace HB := Lib.hid (show Below w.heap.size w (w4.alloc (.cells #[.int .i64 2, .string ⟨#[]⟩, .string ⟨#[]⟩, .int .i64 4, .int .i64 7] 23)) from below_alloc_l HB.out)
  generalize hv4 : (w4.alloc (.cells #[.int .i64 2, .string ⟨#[]⟩, .string ⟨#[]⟩, .int .i64 4, .int .i64 7] 23)) = v4 at *
  clear hv4
  refine (sh_p3 _ (HE.out.below HB.out)).mono ?_
  rintro e w5 ⟨rfl, hb5⟩
  replace a0 := (hb5.cell (World.block_lt_of_cell? _ _ a0)).trans a0
  replace a1 := (hb5.cell (World.block_lt_of_cell? _ _ a1)).trans a1
  replace a2 := (hb5.cell (World.block_lt_of_cell? _ _ a2)).trans a2
  replace a3 := (hb5.cell (World.block_lt_of_cell? _ _ a3)).trans a3
  replace a4 := (hb5.cell (World.block_lt_of_cell? _ _ a4)).trans a4
  replace c0 := (hb5.cell (World.block_lt_of_cell? _ _ c0)).trans c0
  replace c1 := (hb5.cell (World.block_lt_of_cell? _ _ c1)).trans c1
  replace c2 := (hb5.cell (World.block_lt_of_cell? _ _ c2)).trans c2
  replace c3 := (hb5.cell (World.block_lt_of_cell? _ _ c3)).trans c3
  replace c4 := (hb5.cell (World.block_lt_of_cell? _ _ c4)).trans c4
  replace HB := Lib.hid (HB.out.trans (hb5.mono HB.out.size))
  clear hb5
  go_wp2_with fail
  replace a0 : (w5.alloc (.cells #[.int .i64 0, .string ⟨#[]⟩, .string ⟨#[]⟩, .int .i64 0, .int .i64 0] 23)).cell? ⟨w1.heap.size, 0, none⟩ = some (.int .i64 1) := cell_al a0
  replace a1 : (w5.alloc (.cells #[.int .i64 0, .string ⟨#[]⟩, .string ⟨#[]⟩, .int .i64 0, .int .i64 0] 23)).cell? ⟨w1.heap.size, 1, none⟩ = some (.string ⟨#[101, 97, 114, 116, 104]⟩) := cell_al a1
  replace a2 : (w5.alloc (.cells #[.int .i64 0, .string ⟨#[]⟩, .string ⟨#[]⟩, .int .i64 0, .int .i64 0] 23)).cell? ⟨w1.heap.size, 2, none⟩ = some (.string ⟨#[110, 101, 119, 115]⟩) := cell_al a2
  replace a3 : (w5.alloc (.cells #[.int .i64 0, .string ⟨#[]⟩, .string ⟨#[]⟩, .int .i64 0, .int .i64 0] 23)).cell? ⟨w1.heap.size, 3, none⟩ = some (.int .i64 0) := cell_al a3
  replace a4 : (w5.alloc (.cells #[.int .i64 0, .string ⟨#[]⟩, .string ⟨#[]⟩, .int .i64 0, .int .i64 0] 23)).cell? ⟨w1.heap.size, 4, none⟩ = some (.int .i64 0) := cell_al a4
  replace c0 : (w5.alloc (.cells #[.int .i64 0, .string ⟨#[]⟩, .string ⟨#[]⟩, .int .i64 0, .int .i64 0] 23)).cell? ⟨w4.heap.size, 0, none⟩ = some (.int .i64 2) := cell_al c0
  replace c1 : (w5.alloc (.cells #[.int .i64 0, .string ⟨#[]⟩, .string ⟨#[]⟩, .int .i64 0, .int .i64 0] 23)).cell? ⟨w4.heap.size, 1, none⟩ = some (.string ⟨#[]⟩) := cell_al c1
  replace c2 : (w5.alloc (.cells #[.int .i64 0, .string ⟨#[]⟩, .string ⟨#[]⟩, .int .i64 0, .int .i64 0] 23)).cell? ⟨w4.heap.size, 2, none⟩ = some (.string ⟨#[]⟩) := cell_al c2
  replace c3 : (w5.alloc (.cells #[.int .i64 0, .string ⟨#[]⟩, .string ⟨#[]⟩, .int .i64 0, .int .i64 0] 23)).cell? ⟨w4.heap.size, 3, none⟩ = some (.int .i64 4) := cell_al c3
  replace c4 : (w5.alloc (.cells #[.int .i64 0, .string ⟨#[]⟩, .string ⟨#[]⟩, .int .i64 0, .int .i64 0] 23)).cell? ⟨w4.heap.size, 4, none⟩ = some (.int .i64 7) := cell_al c4
  have n0 : (w5.alloc (.cells #[.int .i64 0, .string ⟨#[]⟩, .string ⟨#[]⟩, .int .i64 0, .int .i64 0] 23)).cell? ⟨w5.heap.size, 0, none⟩ = some (.int .i64 0) := by go_simp
  have n1 : (w5.alloc (.cells #[.int .i64 0, .string ⟨#[]⟩, .string ⟨#[]⟩, .int .i64 0, .int .i64 0] 23)).cell? ⟨w5.heap.size, 1, none⟩ = some (.string ⟨#[]⟩) := by go_simp
  have n2 : (w5.alloc (.cells #[.int .i64 0, .string ⟨#[]⟩, .string ⟨#[]⟩, .int .i64 0, .int .i64 0] 23)).cell? ⟨w5.heap.size, 2, none⟩ = some (.string ⟨#[]⟩) := by go_simp
  have n3 : (w5.alloc (.cells #[.int .i64 0, .string ⟨#[]⟩, .string ⟨#[]⟩, .int .i64 0, .int .i64 0] 23)).cell? ⟨w5.heap.size, 3, none⟩ = some (.int .i64 0) := by go_simp
  have n4 : (w5.alloc (.cells #[.int .i64 0, .string ⟨#[]⟩, .string ⟨#[]⟩, .int .i64 0, .int .i64 0] 23)).cell? ⟨w5.heap.size, 4, none⟩ = some (.int .i64 0) := by go_simp
  replace HB := Lib.hid (show Below w.heap.size w (w5.alloc (.cells #[.int .i64 0, .string ⟨#[]⟩, .string ⟨#[]⟩, .int .i64 0, .int .i64 0] 23)) from below_alloc_l HB.out)
  generalize hv5 : (w5.alloc (.cells #[.int .i64 0, .string ⟨#[]⟩, .string ⟨#[]⟩, .int .i64 0, .int .i64 0] 23)) = v5 at *
  clear hv5
  refine (sh_p4 _ (HE.out.below HB.out)).mono ?_
  rintro e w6 ⟨rfl, hb6⟩
  replace a0 := (hb6.cell (World.block_lt_of_cell? _ _ a0)).trans a0
  replace a1 := (hb6.cell (World.block_lt_of_cell? _ _ a1)).trans a1
  replace a2 := (hb6.cell (World.block_lt_of_cell? _ _ a2)).trans a2
  replace a3 := (hb6.cell (World.block_lt_of_cell? _ _ a3)).trans a3
  replace a4 := (hb6.cell (World.block_lt_of_cell? _ _ a4)).trans a4
  replace c0 := (hb6.cell (World.block_lt_of_cell? _ _ c0)).trans c0
  replace c1 := (hb6.cell (World.block_lt_of_cell? _ _ c1)).trans c1
  replace c2 := (hb6.cell (World.block_lt_of_cell? _ _ c2)).trans c2
  replace c3 := (hb6.cell (World.block_lt_of_cell? _ _ c3)).trans c3
  replace c4 := (hb6.cell (World.block_lt_of_cell? _ _ c4)).trans c4
  replace n0 := (hb6.cell (World.block_lt_of_cell? _ _ n0)).trans n0
  replace n1 := (hb6.cell (World.block_lt_of_cell? _ _ n1)).trans n1
  replace n2 := (hb6.cell (World.block_lt_of_cell? _ _ n2)).trans n2
  replace n3 := (hb6.cell (World.block_lt_of_cell? _ _ n3)).trans n3
  replace n4 := (hb6.cell (World.block_lt_of_cell? _ _ n4)).trans n4
  replace HB := Lib.hid (HB.out.trans (hb6.mono HB.out.size))
  clear hb6
  go_wp2_with fail
  replace a0 : (w6.alloc (.cells #[.int .i64 0, .string ⟨#[]⟩, .string ⟨#[]⟩, .int .i64 0, .int .i64 0] 23)).cell? ⟨w1.heap.size, 0, none⟩ = some (.int .i64 1) := cell_al a0
  replace a1 : (w6.alloc (.cells #[.int .i64 0, .string ⟨#[]⟩, .string ⟨#[]⟩, .int .i64 0, .int .i64 0] 23)).cell? ⟨w1.heap.size, 1, none⟩ = some (.string ⟨#[101, 97, 114, 116, 104]⟩) := cell_al a1
  replace a2 : (w6.alloc (.cells #[.int .i64 0, .string ⟨#[]⟩, .string ⟨#[]⟩, .int .i64 0, .int .i64 0] 23)).cell? ⟨w1.heap.size, 2, none⟩ = some (.string ⟨#[110, 101, 119, 115]⟩) := cell_al a2
  replace a3 : (w6.alloc (.cells #[.int .i64 0, .string ⟨#[]⟩, .string ⟨#[]⟩, .int .i64 0, .int .i64 0] 23)).cell? ⟨w1.heap.size, 3, none⟩ = some (.int .i64 0) := cell_al a3
  replace a4 : (w6.alloc (.cells #[.int .i64 0, .string ⟨#[]⟩, .string ⟨#[]⟩, .int .i64 0, .int .i64 0] 23)).cell? ⟨w1.heap.size, 4, none⟩ = some (.int .i64 0) := cell_al a4
  replace c0 : (w6.alloc (.cells #[.int .i64 0, .string ⟨#[]⟩, .string ⟨#[]⟩, .int .i64 0, .int .i64 0] 23)).cell? ⟨w4.heap.size, 0, none⟩ = some (.int .i64 2) := cell_al c0
  replace c1 : (w6.alloc (.cells #[.int .i64 0, .string ⟨#[]⟩, .string ⟨#[]⟩, .int .i64 0, .int .i64 0] 23)).cell? ⟨w4.heap.size, 1, none⟩ = some (.string ⟨#[]⟩) := cell_al c1
  replace c2 : (w6.alloc (.cells #[.int .i64 0, .string ⟨#[]⟩, .string ⟨#[]⟩, .int .i64 0, .int .i64 0] 23)).cell? ⟨w4.heap.size, 2, none⟩ = some (.string ⟨#[]⟩) := cell_al c2
  replace c3 : (w6.alloc (.cells #[.int .i64 0, .string ⟨#[]⟩, .string ⟨#[]⟩, .int .i64 0, .int .i64 0] 23)).cell? ⟨w4.heap.size, 3, none⟩ = some (.int .i64 4) := cell_al c3
  replace c4 : (w6.alloc (.cells #[.int .i64 0, .string ⟨#[]⟩, .string ⟨#[]⟩, .int .i64 0, .int .i64 0] 23)).cell? ⟨w4.heap.size, 4, none⟩ = some (.int .i64 7) := cell_al c4
  replace n0 : (w6.alloc (.cells #[.int .i64 0, .string ⟨#[]⟩, .string ⟨#[]⟩, .int .i64 0, .int .i64 0] 23)).cell? ⟨w5.heap.size, 0, none⟩ = some (.int .i64 0) := cell_al n0
  replace n1 : (w6.alloc (.cells #[.int .i64 0, .string ⟨#[]⟩, .string ⟨#[]⟩, .int .i64 0, .int .i64 0] 23)).cell? ⟨w5.heap.size, 1, none⟩ = some (.string ⟨#[]⟩) := cell_al n1
  replace n2 : (w6.alloc (.cells #[.int .i64 0, .string ⟨#[]⟩, .string ⟨#[]⟩, .int .i64 0, .int .i64 0] 23)).cell? ⟨w5.heap.size, 2, none⟩ = some (.string ⟨#[]⟩) := cell_al n2
  replace n3 : (w6.alloc (.cells #[.int .i64 0, .string ⟨#[]⟩, .string ⟨#[]⟩, .int .i64 0, .int .i64 0] 23)).cell? ⟨w5.heap.size, 3, none⟩ = some (.int .i64 0) := cell_al n3
  replace n4 : (w6.alloc (.cells #[.int .i64 0, .string ⟨#[]⟩, .string ⟨#[]⟩, .int .i64 0, .int .i64 0] 23)).cell? ⟨w5.heap.size, 4, none⟩ = some (.int .i64 0) := cell_al n4
  replace HB := Lib.hid (show Below w.heap.size w (w6.alloc (.cells #[.int .i64 0, .string ⟨#[]⟩, .string ⟨#[]⟩, .int .i64 0, .int .i64 0] 23)) from below_alloc_l HB.out)
  generalize hv6 : (w6.alloc (.cells #[.int .i64 0, .string ⟨#[]⟩, .string ⟨#[]⟩, .int .i64 0, .int .i64 0] 23)) = v6 at *
  clear hv6
  refine (sh_p5 _ (HE.out.below HB.out)).mono ?_
  rintro e w7 ⟨rfl, hb7⟩
  replace a0 := (hb7.cell (World.block_lt_of_cell? _ _ a0)).trans a0
  replace a1 := (hb7.cell (World.block_lt_of_cell? _ _ a1)).trans a1
  replace a2 := (hb7.cell (World.block_lt_of_cell? _ _ a2)).trans a2
  replace a3 := (hb7.cell (World.block_lt_of_cell? _ _ a3)).trans a3
  replace a4 := (hb7.cell (World.block_lt_of_cell? _ _ a4)).trans a4
  replace c0 := (hb7.cell (World.block_lt_of_cell? _ _ c0)).trans c0
  replace c1 := (hb7.cell (World.block_lt_of_cell? _ _ c1)).trans c1
  replace c2 := (hb7.cell (World.block_lt_of_cell? _ _ c2)).trans c2
  replace c3 := (hb7.cell (World.block_lt_of_cell? _ _ c3)).trans c3
  replace c4 := (hb7.cell (World.block_lt_of_cell? _ _ c4)).trans c4
  replace n0 := (hb7.cell (World.block_lt_of_cell? _ _ n0)).trans n0
  replace n1 := (hb7.cell (World.block_lt_of_cell? _ _ n1)).trans n1
  replace n2 := (hb7.cell (World.block_lt_of_cell? _ _ n2)).trans n2
  replace n3 := (hb7.cell (World.block_lt_of_cell? _ _ n3)).trans n3
  replace n4 := (hb7.cell (World.block_lt_of_cell? _ _ n4)).trans n4
  replace HB := Lib.hid (HB.out.trans (hb7.mono HB.out.size))
  clear hb7
  replace a0 : (w7.alloc (.cells #[.int .i64 0, .string ⟨#[]⟩, .string ⟨#[]⟩, .int .i64 0, .int .i64 0] 23)).cell? ⟨w1.heap.size, 0, none⟩ = some (.int .i64 1) := cell_al a0
  replace a1 : (w7.alloc (.cells #[.int .i64 0, .string ⟨#[]⟩, .string ⟨#[]⟩, .int .i64 0, .int .i64 0] 23)).cell? ⟨w1.heap.size, 1, none⟩ = some (.string ⟨#[101, 97, 114, 116, 104]⟩) := cell_al a1
  replace a2 : (w7.alloc (.cells #[.int .i64 0, .string ⟨#[]⟩, .string ⟨#[]⟩, .int .i64 0, .int .i64 0] 23)).cell? ⟨w1.heap.size, 2, none⟩ = some (.string ⟨#[110, 101, 119, 115]⟩) := cell_al a2
  replace a3 : (w7.alloc (.cells #[.int .i64 0, .string ⟨#[]⟩, .string ⟨#[]⟩, .int .i64 0, .int .i64 0] 23)).cell? ⟨w1.heap.size, 3, none⟩ = some (.int .i64 0) := cell_al a3
  replace a4 : (w7.alloc (.cells #[.int .i64 0, .string ⟨#[]⟩, .string ⟨#[]⟩, .int .i64 0, .int .i64 0] 23)).cell? ⟨w1.heap.size, 4, none⟩ = some (.int .i64 0) := cell_al a4
  replace c0 : (w7.alloc (.cells #[.int .i64 0, .string ⟨#[]⟩, .string ⟨#[]⟩, .int .i64 0, .int .i64 0] 23)).cell? ⟨w4.heap.size, 0, none⟩ = some (.int .i64 2) := cell_al c0
  replace c1 : (w7.alloc (.cells #[.int .i64 0, .string ⟨#[]⟩, .string ⟨#[]⟩, .int .i64 0, .int .i64 0] 23)).cell? ⟨w4.heap.size, 1, none⟩ = some (.string ⟨#[]⟩) := cell_al c1
  replace c2 : (w7.alloc (.cells #[.int .i64 0, .string ⟨#[]⟩, .string ⟨#[]⟩, .int .i64 0, .int .i64 0] 23)).cell? ⟨w4.heap.size, 2, none⟩ = some (.string ⟨#[]⟩) := cell_al c2
  replace c3 : (w7.alloc (.cells #[.int .i64 0, .string ⟨#[]⟩, .string ⟨#[]⟩, .int .i64 0, .int .i64 0] 23)).cell? ⟨w4.heap.size, 3, none⟩ = some (.int .i64 4) := cell_al c3
  replace c4 : (w7.alloc (.cells #[.int .i64 0, .string ⟨#[]⟩, .string ⟨#[]⟩, .int .i64 0, .int .i64 0] 23)).cell? ⟨w4.heap.size, 4, none⟩ = some (.int .i64 7) := cell_al c4
  replace n0 : (w7.alloc (.cells #[.int .i64 0, .string ⟨#[]⟩, .string ⟨#[]⟩, .int .i64 0, .int .i64 0] 23)).cell? ⟨w5.heap.size, 0, none⟩ = some (.int .i64 0) := cell_al n0
  replace n1 : (w7.alloc (.cells #[.int .i64 0, .string ⟨#[]⟩, .string ⟨#[]⟩, .int .i64 0, .int .i64 0] 23)).cell? ⟨w5.heap.size, 1, none⟩ = some (.string ⟨#[]⟩) := cell_al n1
  replace n2 : (w7.alloc (.cells #[.int .i64 0, .string ⟨#[]⟩, .string ⟨#[]⟩, .int .i64 0, .int .i64 0] 23)).cell? ⟨w5.heap.size, 2, none⟩ = some (.string ⟨#[]⟩) := cell_al n2
  replace n3 : (w7.alloc (.cells #[.int .i64 0, .string ⟨#[]⟩, .string ⟨#[]⟩, .int .i64 0, .int .i64 0] 23)).cell? ⟨w5.heap.size, 3, none⟩ = some (.int .i64 0) := cell_al n3
  replace n4 : (w7.alloc (.cells #[.int .i64 0, .string ⟨#[]⟩, .string ⟨#[]⟩, .int .i64 0, .int .i64 0] 23)).cell? ⟨w5.heap.size, 4, none⟩ = some (.int .i64 0) := cell_al n4
  go_wp2_with fail
  go_ret
  exact ⟨rfl, below_alloc_l HB.out⟩
end Go.Proofs.YtmpokhdljlnllaaDoor
