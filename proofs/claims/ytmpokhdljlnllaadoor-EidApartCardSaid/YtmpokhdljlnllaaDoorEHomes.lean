/- The walk of EidHomes. -/
import Derived.Test.YtmpokhdljlnllaaDoorEApart
set_option linter.unusedVariables false
set_option linter.unusedSimpArgs false
namespace Go.Proofs.YtmpokhdljlnllaaDoor
open Go.RowKit

set_option maxRecDepth 100000 in
set_option maxHeartbeats 4000000 in
theorem homes_no (k : Int) (nd sv t x1 x2 : ByteArray) (a b : Int) (w : World) (HE : Hid (EnvN w))
    (HCUT : Hid (∀ W, Calls Tryd.prog 9 #[.agg #[.int .i64 k, .string nd, .string sv, .int .i64 a, .int .i64 b]] W fun e w' => e = .returned (.agg #[.int .i64 k, .string x1, .string x2, .int .i64 a, .int .i64 b]) ∧ Below W.heap.size W w'))
    (HH1 : Hid (∀ W, EnvN W → Calls Tryd.prog 19 #[.agg #[.int .i64 k, .string x1, .string x2, .int .i64 a, .int .i64 b]] W fun e w' => e = .returned (.tuple #[.agg #[.int .i64 0, .string ⟨#[]⟩, .string ⟨#[]⟩, .int .i64 0, .int .i64 0], .int .i64 60]) ∧ Below W.heap.size W w'))
    (HR : Hid (∀ W, EnvN W → Calls Tryd.prog 21 #[.agg #[.int .i64 k, .string x1, .string x2, .int .i64 a, .int .i64 b]] W fun e w' => e = .returned (.bool false) ∧ Below W.heap.size W w')) :
    Calls Tryd.prog 6 #[.agg #[.int .i64 k, .string nd, .string sv, .int .i64 a, .int .i64 b], .string t] w fun e w' => e = .returned (.bool true) ∧ Below w.heap.size w w' := by
  have e3 : ∀ W : World, (binOp .eql 23 (.agg #[.int .i64 0, .string ⟨#[]⟩, .string ⟨#[]⟩, .int .i64 0, .int .i64 0]) (.agg #[.int .i64 0, .string ⟨#[]⟩, .string ⟨#[]⟩, .int .i64 0, .int .i64 0])).run Tryd.prog W = .ok (.bool true) W := fun W => by rw [nm_eql, nmE_iff.2 ⟨rfl, rfl, rfl, rfl, rfl⟩]
  go_enter Tryd.func6, Tryd.ntmps6
  go_wp2_with fail
  have cx0 : (w.alloc (.cells #[.int .i64 k, .string nd, .string sv, .int .i64 a, .int .i64 b] 23)).cell? ⟨w.heap.size, 0, none⟩ = some (.int .i64 k) := by go_simp
  have cxf0 : (w.alloc (.cells #[.int .i64 k, .string nd, .string sv, .int .i64 a, .int .i64 b] 23)).frozen? ⟨w.heap.size, 0, none⟩ = false := by go_simp
  have cx1 : (w.alloc (.cells #[.int .i64 k, .string nd, .string sv, .int .i64 a, .int .i64 b] 23)).cell? ⟨w.heap.size, 1, none⟩ = some (.string nd) := by go_simp
  have cxf1 : (w.alloc (.cells #[.int .i64 k, .string nd, .string sv, .int .i64 a, .int .i64 b] 23)).frozen? ⟨w.heap.size, 1, none⟩ = false := by go_simp
  have cx2 : (w.alloc (.cells #[.int .i64 k, .string nd, .string sv, .int .i64 a, .int .i64 b] 23)).cell? ⟨w.heap.size, 2, none⟩ = some (.string sv) := by go_simp
  have cxf2 : (w.alloc (.cells #[.int .i64 k, .string nd, .string sv, .int .i64 a, .int .i64 b] 23)).frozen? ⟨w.heap.size, 2, none⟩ = false := by go_simp
  have cx3 : (w.alloc (.cells #[.int .i64 k, .string nd, .string sv, .int .i64 a, .int .i64 b] 23)).cell? ⟨w.heap.size, 3, none⟩ = some (.int .i64 a) := by go_simp
  have cxf3 : (w.alloc (.cells #[.int .i64 k, .string nd, .string sv, .int .i64 a, .int .i64 b] 23)).frozen? ⟨w.heap.size, 3, none⟩ = false := by go_simp
  have cx4 : (w.alloc (.cells #[.int .i64 k, .string nd, .string sv, .int .i64 a, .int .i64 b] 23)).cell? ⟨w.heap.size, 4, none⟩ = some (.int .i64 b) := by go_simp
  have cxf4 : (w.alloc (.cells #[.int .i64 k, .string nd, .string sv, .int .i64 a, .int .i64 b] 23)).frozen? ⟨w.heap.size, 4, none⟩ = false := by go_simp
  have HB := Lib.hid (show Below w.heap.size w (w.alloc (.cells #[.int .i64 k, .string nd, .string sv, .int .i64 a, .int .i64 b] 23)) from below_alloc_l (Below.refl _ _))
  generalize hh1 : (w.alloc (.cells #[.int .i64 k, .string nd, .string sv, .int .i64 a, .int .i64 b] 23)) = v1 at *
  clear hh1
  refine (shown_any _ (HE.out.below HB.out)).mono ?_
  rintro e w1 ⟨rfl, hb⟩
  replace cxf0 := (hb.frozen (World.block_lt_of_cell? _ _ cx0)).trans cxf0
  replace cx0 := (hb.cell (World.block_lt_of_cell? _ _ cx0)).trans cx0
  replace cxf1 := (hb.frozen (World.block_lt_of_cell? _ _ cx1)).trans cxf1
  replace cx1 := (hb.cell (World.block_lt_of_cell? _ _ cx1)).trans cx1
  replace cxf2 := (hb.frozen (World.block_lt_of_cell? _ _ cx2)).trans cxf2
  replace cx2 := (hb.cell (World.block_lt_of_cell? _ _ cx2)).trans cx2
  replace cxf3 := (hb.frozen (World.block_lt_of_cell? _ _ cx3)).trans cxf3
  replace cx3 := (hb.cell (World.block_lt_of_cell? _ _ cx3)).trans cx3
  replace cxf4 := (hb.frozen (World.block_lt_of_cell? _ _ cx4)).trans cxf4
  replace cx4 := (hb.cell (World.block_lt_of_cell? _ _ cx4)).trans cx4
  replace HB := Lib.hid (HB.out.trans (hb.mono HB.out.size))
  clear hb
  go_wp2_with fail
  refine (HCUT.out _).mono ?_
  rintro e w2 ⟨rfl, hb⟩
  replace cxf0 := (hb.frozen (World.block_lt_of_cell? _ _ cx0)).trans cxf0
  replace cx0 := (hb.cell (World.block_lt_of_cell? _ _ cx0)).trans cx0
  replace cxf1 := (hb.frozen (World.block_lt_of_cell? _ _ cx1)).trans cxf1
  replace cx1 := (hb.cell (World.block_lt_of_cell? _ _ cx1)).trans cx1
  replace cxf2 := (hb.frozen (World.block_lt_of_cell? _ _ cx2)).trans cxf2
  replace cx2 := (hb.cell (World.block_lt_of_cell? _ _ cx2)).trans cx2
  replace cxf3 := (hb.frozen (World.block_lt_of_cell? _ _ cx3)).trans cxf3
  replace cx3 := (hb.cell (World.block_lt_of_cell? _ _ cx3)).trans cx3
  replace cxf4 := (hb.frozen (World.block_lt_of_cell? _ _ cx4)).trans cxf4
  replace cx4 := (hb.cell (World.block_lt_of_cell? _ _ cx4)).trans cx4
  replace HB := Lib.hid (HB.out.trans (hb.mono HB.out.size))
  clear hb
  go_wp2_with fail
  have k5 := set5 (v0 := .int .i64 k) (v1 := .string x1) (v2 := .string x2) (v3 := .int .i64 a) (v4 := .int .i64 b) cx0 cx1 cx2 cx3 cx4
  replace cxf0 : (((((w2.setCell ⟨w.heap.size, 0, none⟩ (.int .i64 k)).setCell ⟨w.heap.size, 1, none⟩ (.string x1)).setCell ⟨w.heap.size, 2, none⟩ (.string x2)).setCell ⟨w.heap.size, 3, none⟩ (.int .i64 a)).setCell ⟨w.heap.size, 4, none⟩ (.int .i64 b)).frozen? ⟨w.heap.size, 0, none⟩ = false := frozen_set5 cxf0
  replace cxf1 : (((((w2.setCell ⟨w.heap.size, 0, none⟩ (.int .i64 k)).setCell ⟨w.heap.size, 1, none⟩ (.string x1)).setCell ⟨w.heap.size, 2, none⟩ (.string x2)).setCell ⟨w.heap.size, 3, none⟩ (.int .i64 a)).setCell ⟨w.heap.size, 4, none⟩ (.int .i64 b)).frozen? ⟨w.heap.size, 1, none⟩ = false := frozen_set5 cxf1
  replace cxf2 : (((((w2.setCell ⟨w.heap.size, 0, none⟩ (.int .i64 k)).setCell ⟨w.heap.size, 1, none⟩ (.string x1)).setCell ⟨w.heap.size, 2, none⟩ (.string x2)).setCell ⟨w.heap.size, 3, none⟩ (.int .i64 a)).setCell ⟨w.heap.size, 4, none⟩ (.int .i64 b)).frozen? ⟨w.heap.size, 2, none⟩ = false := frozen_set5 cxf2
  replace cxf3 : (((((w2.setCell ⟨w.heap.size, 0, none⟩ (.int .i64 k)).setCell ⟨w.heap.size, 1, none⟩ (.string x1)).setCell ⟨w.heap.size, 2, none⟩ (.string x2)).setCell ⟨w.heap.size, 3, none⟩ (.int .i64 a)).setCell ⟨w.heap.size, 4, none⟩ (.int .i64 b)).frozen? ⟨w.heap.size, 3, none⟩ = false := frozen_set5 cxf3
  replace cxf4 : (((((w2.setCell ⟨w.heap.size, 0, none⟩ (.int .i64 k)).setCell ⟨w.heap.size, 1, none⟩ (.string x1)).setCell ⟨w.heap.size, 2, none⟩ (.string x2)).setCell ⟨w.heap.size, 3, none⟩ (.int .i64 a)).setCell ⟨w.heap.size, 4, none⟩ (.int .i64 b)).frozen? ⟨w.heap.size, 4, none⟩ = false := frozen_set5 cxf4
  clear cx0 cx1 cx2 cx3 cx4
  obtain ⟨cx0, cx1, cx2, cx3, cx4⟩ := k5
  have hge : w.heap.size ≤ w.heap.size := by omega
  replace HB := Lib.hid (show Below w.heap.size w (((((w2.setCell ⟨w.heap.size, 0, none⟩ (.int .i64 k)).setCell ⟨w.heap.size, 1, none⟩ (.string x1)).setCell ⟨w.heap.size, 2, none⟩ (.string x2)).setCell ⟨w.heap.size, 3, none⟩ (.int .i64 a)).setCell ⟨w.heap.size, 4, none⟩ (.int .i64 b)) from below_set5 (R := w.heap.size) (v0 := .int .i64 k) (v1 := .string x1) (v2 := .string x2) (v3 := .int .i64 a) (v4 := .int .i64 b) HB.out hge)
  generalize hh2 : (((((w2.setCell ⟨w.heap.size, 0, none⟩ (.int .i64 k)).setCell ⟨w.heap.size, 1, none⟩ (.string x1)).setCell ⟨w.heap.size, 2, none⟩ (.string x2)).setCell ⟨w.heap.size, 3, none⟩ (.int .i64 a)).setCell ⟨w.heap.size, 4, none⟩ (.int .i64 b)) = v2 at *
  clear hh2
  clear hge
  refine (HH1.out _ (HE.out.below HB.out)).mono ?_
  rintro e w3 ⟨rfl, hb⟩
  replace cxf0 := (hb.frozen (World.block_lt_of_cell? _ _ cx0)).trans cxf0
  replace cx0 := (hb.cell (World.block_lt_of_cell? _ _ cx0)).trans cx0
  replace cxf1 := (hb.frozen (World.block_lt_of_cell? _ _ cx1)).trans cxf1
  replace cx1 := (hb.cell (World.block_lt_of_cell? _ _ cx1)).trans cx1
  replace cxf2 := (hb.frozen (World.block_lt_of_cell? _ _ cx2)).trans cxf2
  replace cx2 := (hb.cell (World.block_lt_of_cell? _ _ cx2)).trans cx2
  replace cxf3 := (hb.frozen (World.block_lt_of_cell? _ _ cx3)).trans cxf3
  replace cx3 := (hb.cell (World.block_lt_of_cell? _ _ cx3)).trans cx3
  replace cxf4 := (hb.frozen (World.block_lt_of_cell? _ _ cx4)).trans cxf4
  replace cx4 := (hb.cell (World.block_lt_of_cell? _ _ cx4)).trans cx4
  replace HB := Lib.hid (HB.out.trans (hb.mono HB.out.size))
  clear hb
  have hlca_cx := World.block_lt_of_cell? _ _ cx0
  replace cxf0 : (w3.alloc (.cells #[.int .i64 0, .string ⟨#[]⟩, .string ⟨#[]⟩, .int .i64 0, .int .i64 0] 23)).frozen? ⟨w.heap.size, 0, none⟩ = false := frozen_al cx0 cxf0
  replace cx0 : (w3.alloc (.cells #[.int .i64 0, .string ⟨#[]⟩, .string ⟨#[]⟩, .int .i64 0, .int .i64 0] 23)).cell? ⟨w.heap.size, 0, none⟩ = some (.int .i64 k) := cell_al cx0
  replace cxf1 : (w3.alloc (.cells #[.int .i64 0, .string ⟨#[]⟩, .string ⟨#[]⟩, .int .i64 0, .int .i64 0] 23)).frozen? ⟨w.heap.size, 1, none⟩ = false := frozen_al cx1 cxf1
  replace cx1 : (w3.alloc (.cells #[.int .i64 0, .string ⟨#[]⟩, .string ⟨#[]⟩, .int .i64 0, .int .i64 0] 23)).cell? ⟨w.heap.size, 1, none⟩ = some (.string x1) := cell_al cx1
  replace cxf2 : (w3.alloc (.cells #[.int .i64 0, .string ⟨#[]⟩, .string ⟨#[]⟩, .int .i64 0, .int .i64 0] 23)).frozen? ⟨w.heap.size, 2, none⟩ = false := frozen_al cx2 cxf2
  replace cx2 : (w3.alloc (.cells #[.int .i64 0, .string ⟨#[]⟩, .string ⟨#[]⟩, .int .i64 0, .int .i64 0] 23)).cell? ⟨w.heap.size, 2, none⟩ = some (.string x2) := cell_al cx2
  replace cxf3 : (w3.alloc (.cells #[.int .i64 0, .string ⟨#[]⟩, .string ⟨#[]⟩, .int .i64 0, .int .i64 0] 23)).frozen? ⟨w.heap.size, 3, none⟩ = false := frozen_al cx3 cxf3
  replace cx3 : (w3.alloc (.cells #[.int .i64 0, .string ⟨#[]⟩, .string ⟨#[]⟩, .int .i64 0, .int .i64 0] 23)).cell? ⟨w.heap.size, 3, none⟩ = some (.int .i64 a) := cell_al cx3
  replace cxf4 : (w3.alloc (.cells #[.int .i64 0, .string ⟨#[]⟩, .string ⟨#[]⟩, .int .i64 0, .int .i64 0] 23)).frozen? ⟨w.heap.size, 4, none⟩ = false := frozen_al cx4 cxf4
  replace cx4 : (w3.alloc (.cells #[.int .i64 0, .string ⟨#[]⟩, .string ⟨#[]⟩, .int .i64 0, .int .i64 0] 23)).cell? ⟨w.heap.size, 4, none⟩ = some (.int .i64 b) := cell_al cx4
  have ca0 : (w3.alloc (.cells #[.int .i64 0, .string ⟨#[]⟩, .string ⟨#[]⟩, .int .i64 0, .int .i64 0] 23)).cell? ⟨w3.heap.size, 0, none⟩ = some (.int .i64 0) := by go_simp
  have ca1 : (w3.alloc (.cells #[.int .i64 0, .string ⟨#[]⟩, .string ⟨#[]⟩, .int .i64 0, .int .i64 0] 23)).cell? ⟨w3.heap.size, 1, none⟩ = some (.string ⟨#[]⟩) := by go_simp
  have ca2 : (w3.alloc (.cells #[.int .i64 0, .string ⟨#[]⟩, .string ⟨#[]⟩, .int .i64 0, .int .i64 0] 23)).cell? ⟨w3.heap.size, 2, none⟩ = some (.string ⟨#[]⟩) := by go_simp
  have ca3 : (w3.alloc (.cells #[.int .i64 0, .string ⟨#[]⟩, .string ⟨#[]⟩, .int .i64 0, .int .i64 0] 23)).cell? ⟨w3.heap.size, 3, none⟩ = some (.int .i64 0) := by go_simp
  have ca4 : (w3.alloc (.cells #[.int .i64 0, .string ⟨#[]⟩, .string ⟨#[]⟩, .int .i64 0, .int .i64 0] 23)).cell? ⟨w3.heap.size, 4, none⟩ = some (.int .i64 0) := by go_simp
  go_wp2_with fail
  replace HB := Lib.hid (show Below w.heap.size w (w3.alloc (.cells #[.int .i64 0, .string ⟨#[]⟩, .string ⟨#[]⟩, .int .i64 0, .int .i64 0] 23)) from below_alloc_l (HB.out))
  generalize hh3 : (w3.alloc (.cells #[.int .i64 0, .string ⟨#[]⟩, .string ⟨#[]⟩, .int .i64 0, .int .i64 0] 23)) = v3 at *
  clear hh3
  refine (HR.out _ (HE.out.below HB.out)).mono ?_
  rintro e w4 ⟨rfl, hb⟩
  replace cxf0 := (hb.frozen (World.block_lt_of_cell? _ _ cx0)).trans cxf0
  replace cx0 := (hb.cell (World.block_lt_of_cell? _ _ cx0)).trans cx0
  replace cxf1 := (hb.frozen (World.block_lt_of_cell? _ _ cx1)).trans cxf1
  replace cx1 := (hb.cell (World.block_lt_of_cell? _ _ cx1)).trans cx1
  replace cxf2 := (hb.frozen (World.block_lt_of_cell? _ _ cx2)).trans cxf2
  replace cx2 := (hb.cell (World.block_lt_of_cell? _ _ cx2)).trans cx2
  replace cxf3 := (hb.frozen (World.block_lt_of_cell? _ _ cx3)).trans cxf3
  replace cx3 := (hb.cell (World.block_lt_of_cell? _ _ cx3)).trans cx3
  replace cxf4 := (hb.frozen (World.block_lt_of_cell? _ _ cx4)).trans cxf4
  replace cx4 := (hb.cell (World.block_lt_of_cell? _ _ cx4)).trans cx4
  replace ca0 := (hb.cell (World.block_lt_of_cell? _ _ ca0)).trans ca0
  replace ca1 := (hb.cell (World.block_lt_of_cell? _ _ ca1)).trans ca1
  replace ca2 := (hb.cell (World.block_lt_of_cell? _ _ ca2)).trans ca2
  replace ca3 := (hb.cell (World.block_lt_of_cell? _ _ ca3)).trans ca3
  replace ca4 := (hb.cell (World.block_lt_of_cell? _ _ ca4)).trans ca4
  replace HB := Lib.hid (HB.out.trans (hb.mono HB.out.size))
  clear hb
  clear HCUT HH1 HR HE
  go_wp2_with fail
  go_ret
  exact ⟨rfl, HB.out⟩

set_option maxRecDepth 100000 in
set_option maxHeartbeats 4000000 in
theorem homes_dtn (k : Int) (nd sv t x1 x2 y2 : ByteArray) (a b n : Int) (w : World) (hk : (k == 1) = true) (ht : t.size ≤ maxLen) (hy : t.extract 0 (min t.size 21) = y2) (HE : Hid (EnvN w)) (c0 c3 c4 : Int) (c1 c2 : ByteArray) (q : Bool)
    (HCUT : Hid (∀ W, Calls Tryd.prog 9 #[.agg #[.int .i64 k, .string nd, .string sv, .int .i64 a, .int .i64 b]] W fun e w' => e = .returned (.agg #[.int .i64 k, .string x1, .string x2, .int .i64 a, .int .i64 b]) ∧ Below W.heap.size W w'))
    (HH1 : Hid (∀ W, EnvN W → Calls Tryd.prog 19 #[.agg #[.int .i64 k, .string x1, .string x2, .int .i64 a, .int .i64 b]] W fun e w' => e = .returned (.tuple #[.agg #[.int .i64 k, .string x1, .string ⟨#[]⟩, .int .i64 a, .int .i64 0], .int .i64 0]) ∧ Below W.heap.size W w'))
    (HH2 : Hid (∀ W, EnvN W → Calls Tryd.prog 19 #[.agg #[.int .i64 k, .string x1, .string ⟨#[]⟩, .int .i64 a, .int .i64 0]] W fun e w' => e = .returned (.tuple #[.agg #[.int .i64 k, .string x1, .string ⟨#[]⟩, .int .i64 a, .int .i64 0], .int .i64 0]) ∧ Below W.heap.size W w'))
    (HR : Hid (∀ W, EnvN W → Calls Tryd.prog 21 #[.agg #[.int .i64 k, .string x1, .string ⟨#[]⟩, .int .i64 a, .int .i64 0]] W fun e w' => e = .returned (.bool true) ∧ Below W.heap.size W w'))
    (ho : (n != 0) = true ∨ (n != 0) = false ∧ k = c0 ∧ x1 = c1 ∧ c2 = ⟨#[]⟩ ∧ a = c3 ∧ c4 = 0)
    (HH3 : Hid (∀ W, EnvN W → Calls Tryd.prog 19 #[.agg #[.int .i64 k, .string x1, .string y2, .int .i64 a, .int .i64 b]] W fun e w' => e = .returned (.tuple #[.agg #[.int .i64 c0, .string c1, .string c2, .int .i64 c3, .int .i64 c4], .int .i64 n]) ∧ Below W.heap.size W w')) :
    Calls Tryd.prog 6 #[.agg #[.int .i64 k, .string nd, .string sv, .int .i64 a, .int .i64 b], .string t] w fun e w' => e = .returned (.bool true) ∧ Below w.heap.size w w' := by
  unfold maxLen at ht
  have et : (min (t.size : Int) 21).toNat = min t.size 21 := by omega
  have g1 : (0 : Int) ≤ min (t.size : Int) 21 := by omega
  have g2 : min (t.size : Int) 21 ≤ (t.size : Int) := by omega
  have e1 : ∀ W : World, (binOp .eql 23 (.agg #[.int .i64 k, .string x1, .string ⟨#[]⟩, .int .i64 a, .int .i64 0]) (.agg #[.int .i64 k, .string x1, .string ⟨#[]⟩, .int .i64 a, .int .i64 0])).run Tryd.prog W = .ok (.bool true) W := fun W => by rw [nm_eql, nmE_iff.2 ⟨rfl, rfl, rfl, rfl, rfl⟩]
  go_enter Tryd.func6, Tryd.ntmps6
  go_wp2_with fail
  have cx0 : (w.alloc (.cells #[.int .i64 k, .string nd, .string sv, .int .i64 a, .int .i64 b] 23)).cell? ⟨w.heap.size, 0, none⟩ = some (.int .i64 k) := by go_simp
  have cxf0 : (w.alloc (.cells #[.int .i64 k, .string nd, .string sv, .int .i64 a, .int .i64 b] 23)).frozen? ⟨w.heap.size, 0, none⟩ = false := by go_simp
  have cx1 : (w.alloc (.cells #[.int .i64 k, .string nd, .string sv, .int .i64 a, .int .i64 b] 23)).cell? ⟨w.heap.size, 1, none⟩ = some (.string nd) := by go_simp
  have cxf1 : (w.alloc (.cells #[.int .i64 k, .string nd, .string sv, .int .i64 a, .int .i64 b] 23)).frozen? ⟨w.heap.size, 1, none⟩ = false := by go_simp
  have cx2 : (w.alloc (.cells #[.int .i64 k, .string nd, .string sv, .int .i64 a, .int .i64 b] 23)).cell? ⟨w.heap.size, 2, none⟩ = some (.string sv) := by go_simp
  have cxf2 : (w.alloc (.cells #[.int .i64 k, .string nd, .string sv, .int .i64 a, .int .i64 b] 23)).frozen? ⟨w.heap.size, 2, none⟩ = false := by go_simp
  have cx3 : (w.alloc (.cells #[.int .i64 k, .string nd, .string sv, .int .i64 a, .int .i64 b] 23)).cell? ⟨w.heap.size, 3, none⟩ = some (.int .i64 a) := by go_simp
  have cxf3 : (w.alloc (.cells #[.int .i64 k, .string nd, .string sv, .int .i64 a, .int .i64 b] 23)).frozen? ⟨w.heap.size, 3, none⟩ = false := by go_simp
  have cx4 : (w.alloc (.cells #[.int .i64 k, .string nd, .string sv, .int .i64 a, .int .i64 b] 23)).cell? ⟨w.heap.size, 4, none⟩ = some (.int .i64 b) := by go_simp
  have cxf4 : (w.alloc (.cells #[.int .i64 k, .string nd, .string sv, .int .i64 a, .int .i64 b] 23)).frozen? ⟨w.heap.size, 4, none⟩ = false := by go_simp
  have HB := Lib.hid (show Below w.heap.size w (w.alloc (.cells #[.int .i64 k, .string nd, .string sv, .int .i64 a, .int .i64 b] 23)) from below_alloc_l (Below.refl _ _))
  generalize hh1 : (w.alloc (.cells #[.int .i64 k, .string nd, .string sv, .int .i64 a, .int .i64 b] 23)) = v1 at *
  clear hh1
  refine (shown_any _ (HE.out.below HB.out)).mono ?_
  rintro e w1 ⟨rfl, hb⟩
  replace cxf0 := (hb.frozen (World.block_lt_of_cell? _ _ cx0)).trans cxf0
  replace cx0 := (hb.cell (World.block_lt_of_cell? _ _ cx0)).trans cx0
  replace cxf1 := (hb.frozen (World.block_lt_of_cell? _ _ cx1)).trans cxf1
  replace cx1 := (hb.cell (World.block_lt_of_cell? _ _ cx1)).trans cx1
  replace cxf2 := (hb.frozen (World.block_lt_of_cell? _ _ cx2)).trans cxf2
  replace cx2 := (hb.cell (World.block_lt_of_cell? _ _ cx2)).trans cx2
  replace cxf3 := (hb.frozen (World.block_lt_of_cell? _ _ cx3)).trans cxf3
  replace cx3 := (hb.cell (World.block_lt_of_cell? _ _ cx3)).trans cx3
  replace cxf4 := (hb.frozen (World.block_lt_of_cell? _ _ cx4)).trans cxf4
  replace cx4 := (hb.cell (World.block_lt_of_cell? _ _ cx4)).trans cx4
  replace HB := Lib.hid (HB.out.trans (hb.mono HB.out.size))
  clear hb
  go_wp2_with fail
  refine (HCUT.out _).mono ?_
  rintro e w2 ⟨rfl, hb⟩
  replace cxf0 := (hb.frozen (World.block_lt_of_cell? _ _ cx0)).trans cxf0
  replace cx0 := (hb.cell (World.block_lt_of_cell? _ _ cx0)).trans cx0
  replace cxf1 := (hb.frozen (World.block_lt_of_cell? _ _ cx1)).trans cxf1
  replace cx1 := (hb.cell (World.block_lt_of_cell? _ _ cx1)).trans cx1
  replace cxf2 := (hb.frozen (World.block_lt_of_cell? _ _ cx2)).trans cxf2
  replace cx2 := (hb.cell (World.block_lt_of_cell? _ _ cx2)).trans cx2
  replace cxf3 := (hb.frozen (World.block_lt_of_cell? _ _ cx3)).trans cxf3
  replace cx3 := (hb.cell (World.block_lt_of_cell? _ _ cx3)).trans cx3
  replace cxf4 := (hb.frozen (World.block_lt_of_cell? _ _ cx4)).trans cxf4
  replace cx4 := (hb.cell (World.block_lt_of_cell? _ _ cx4)).trans cx4
  replace HB := Lib.hid (HB.out.trans (hb.mono HB.out.size))
  clear hb
  go_wp2_with fail
  have k5 := set5 (v0 := .int .i64 k) (v1 := .string x1) (v2 := .string x2) (v3 := .int .i64 a) (v4 := .int .i64 b) cx0 cx1 cx2 cx3 cx4
  replace cxf0 : (((((w2.setCell ⟨w.heap.size, 0, none⟩ (.int .i64 k)).setCell ⟨w.heap.size, 1, none⟩ (.string x1)).setCell ⟨w.heap.size, 2, none⟩ (.string x2)).setCell ⟨w.heap.size, 3, none⟩ (.int .i64 a)).setCell ⟨w.heap.size, 4, none⟩ (.int .i64 b)).frozen? ⟨w.heap.size, 0, none⟩ = false := frozen_set5 cxf0
  replace cxf1 : (((((w2.setCell ⟨w.heap.size, 0, none⟩ (.int .i64 k)).setCell ⟨w.heap.size, 1, none⟩ (.string x1)).setCell ⟨w.heap.size, 2, none⟩ (.string x2)).setCell ⟨w.heap.size, 3, none⟩ (.int .i64 a)).setCell ⟨w.heap.size, 4, none⟩ (.int .i64 b)).frozen? ⟨w.heap.size, 1, none⟩ = false := frozen_set5 cxf1
  replace cxf2 : (((((w2.setCell ⟨w.heap.size, 0, none⟩ (.int .i64 k)).setCell ⟨w.heap.size, 1, none⟩ (.string x1)).setCell ⟨w.heap.size, 2, none⟩ (.string x2)).setCell ⟨w.heap.size, 3, none⟩ (.int .i64 a)).setCell ⟨w.heap.size, 4, none⟩ (.int .i64 b)).frozen? ⟨w.heap.size, 2, none⟩ = false := frozen_set5 cxf2
  replace cxf3 : (((((w2.setCell ⟨w.heap.size, 0, none⟩ (.int .i64 k)).setCell ⟨w.heap.size, 1, none⟩ (.string x1)).setCell ⟨w.heap.size, 2, none⟩ (.string x2)).setCell ⟨w.heap.size, 3, none⟩ (.int .i64 a)).setCell ⟨w.heap.size, 4, none⟩ (.int .i64 b)).frozen? ⟨w.heap.size, 3, none⟩ = false := frozen_set5 cxf3
  replace cxf4 : (((((w2.setCell ⟨w.heap.size, 0, none⟩ (.int .i64 k)).setCell ⟨w.heap.size, 1, none⟩ (.string x1)).setCell ⟨w.heap.size, 2, none⟩ (.string x2)).setCell ⟨w.heap.size, 3, none⟩ (.int .i64 a)).setCell ⟨w.heap.size, 4, none⟩ (.int .i64 b)).frozen? ⟨w.heap.size, 4, none⟩ = false := frozen_set5 cxf4
  clear cx0 cx1 cx2 cx3 cx4
  obtain ⟨cx0, cx1, cx2, cx3, cx4⟩ := k5
  have hge : w.heap.size ≤ w.heap.size := by omega
  replace HB := Lib.hid (show Below w.heap.size w (((((w2.setCell ⟨w.heap.size, 0, none⟩ (.int .i64 k)).setCell ⟨w.heap.size, 1, none⟩ (.string x1)).setCell ⟨w.heap.size, 2, none⟩ (.string x2)).setCell ⟨w.heap.size, 3, none⟩ (.int .i64 a)).setCell ⟨w.heap.size, 4, none⟩ (.int .i64 b)) from below_set5 (R := w.heap.size) (v0 := .int .i64 k) (v1 := .string x1) (v2 := .string x2) (v3 := .int .i64 a) (v4 := .int .i64 b) HB.out hge)
  generalize hh2 : (((((w2.setCell ⟨w.heap.size, 0, none⟩ (.int .i64 k)).setCell ⟨w.heap.size, 1, none⟩ (.string x1)).setCell ⟨w.heap.size, 2, none⟩ (.string x2)).setCell ⟨w.heap.size, 3, none⟩ (.int .i64 a)).setCell ⟨w.heap.size, 4, none⟩ (.int .i64 b)) = v2 at *
  clear hh2
  clear hge
  refine (HH1.out _ (HE.out.below HB.out)).mono ?_
  rintro e w3 ⟨rfl, hb⟩
  replace cxf0 := (hb.frozen (World.block_lt_of_cell? _ _ cx0)).trans cxf0
  replace cx0 := (hb.cell (World.block_lt_of_cell? _ _ cx0)).trans cx0
  replace cxf1 := (hb.frozen (World.block_lt_of_cell? _ _ cx1)).trans cxf1
  replace cx1 := (hb.cell (World.block_lt_of_cell? _ _ cx1)).trans cx1
  replace cxf2 := (hb.frozen (World.block_lt_of_cell? _ _ cx2)).trans cxf2
  replace cx2 := (hb.cell (World.block_lt_of_cell? _ _ cx2)).trans cx2
  replace cxf3 := (hb.frozen (World.block_lt_of_cell? _ _ cx3)).trans cxf3
  replace cx3 := (hb.cell (World.block_lt_of_cell? _ _ cx3)).trans cx3
  replace cxf4 := (hb.frozen (World.block_lt_of_cell? _ _ cx4)).trans cxf4
  replace cx4 := (hb.cell (World.block_lt_of_cell? _ _ cx4)).trans cx4
  replace HB := Lib.hid (HB.out.trans (hb.mono HB.out.size))
  clear hb
  have hlca_cx := World.block_lt_of_cell? _ _ cx0
  replace cxf0 : (w3.alloc (.cells #[.int .i64 k, .string x1, .string ⟨#[]⟩, .int .i64 a, .int .i64 0] 23)).frozen? ⟨w.heap.size, 0, none⟩ = false := frozen_al cx0 cxf0
  replace cx0 : (w3.alloc (.cells #[.int .i64 k, .string x1, .string ⟨#[]⟩, .int .i64 a, .int .i64 0] 23)).cell? ⟨w.heap.size, 0, none⟩ = some (.int .i64 k) := cell_al cx0
  replace cxf1 : (w3.alloc (.cells #[.int .i64 k, .string x1, .string ⟨#[]⟩, .int .i64 a, .int .i64 0] 23)).frozen? ⟨w.heap.size, 1, none⟩ = false := frozen_al cx1 cxf1
  replace cx1 : (w3.alloc (.cells #[.int .i64 k, .string x1, .string ⟨#[]⟩, .int .i64 a, .int .i64 0] 23)).cell? ⟨w.heap.size, 1, none⟩ = some (.string x1) := cell_al cx1
  replace cxf2 : (w3.alloc (.cells #[.int .i64 k, .string x1, .string ⟨#[]⟩, .int .i64 a, .int .i64 0] 23)).frozen? ⟨w.heap.size, 2, none⟩ = false := frozen_al cx2 cxf2
  replace cx2 : (w3.alloc (.cells #[.int .i64 k, .string x1, .string ⟨#[]⟩, .int .i64 a, .int .i64 0] 23)).cell? ⟨w.heap.size, 2, none⟩ = some (.string x2) := cell_al cx2
  replace cxf3 : (w3.alloc (.cells #[.int .i64 k, .string x1, .string ⟨#[]⟩, .int .i64 a, .int .i64 0] 23)).frozen? ⟨w.heap.size, 3, none⟩ = false := frozen_al cx3 cxf3
  replace cx3 : (w3.alloc (.cells #[.int .i64 k, .string x1, .string ⟨#[]⟩, .int .i64 a, .int .i64 0] 23)).cell? ⟨w.heap.size, 3, none⟩ = some (.int .i64 a) := cell_al cx3
  replace cxf4 : (w3.alloc (.cells #[.int .i64 k, .string x1, .string ⟨#[]⟩, .int .i64 a, .int .i64 0] 23)).frozen? ⟨w.heap.size, 4, none⟩ = false := frozen_al cx4 cxf4
  replace cx4 : (w3.alloc (.cells #[.int .i64 k, .string x1, .string ⟨#[]⟩, .int .i64 a, .int .i64 0] 23)).cell? ⟨w.heap.size, 4, none⟩ = some (.int .i64 b) := cell_al cx4
  have ca0 : (w3.alloc (.cells #[.int .i64 k, .string x1, .string ⟨#[]⟩, .int .i64 a, .int .i64 0] 23)).cell? ⟨w3.heap.size, 0, none⟩ = some (.int .i64 k) := by go_simp
  have ca1 : (w3.alloc (.cells #[.int .i64 k, .string x1, .string ⟨#[]⟩, .int .i64 a, .int .i64 0] 23)).cell? ⟨w3.heap.size, 1, none⟩ = some (.string x1) := by go_simp
  have ca2 : (w3.alloc (.cells #[.int .i64 k, .string x1, .string ⟨#[]⟩, .int .i64 a, .int .i64 0] 23)).cell? ⟨w3.heap.size, 2, none⟩ = some (.string ⟨#[]⟩) := by go_simp
  have ca3 : (w3.alloc (.cells #[.int .i64 k, .string x1, .string ⟨#[]⟩, .int .i64 a, .int .i64 0] 23)).cell? ⟨w3.heap.size, 3, none⟩ = some (.int .i64 a) := by go_simp
  have ca4 : (w3.alloc (.cells #[.int .i64 k, .string x1, .string ⟨#[]⟩, .int .i64 a, .int .i64 0] 23)).cell? ⟨w3.heap.size, 4, none⟩ = some (.int .i64 0) := by go_simp
  go_wp2_with fail
  replace HB := Lib.hid (show Below w.heap.size w (w3.alloc (.cells #[.int .i64 k, .string x1, .string ⟨#[]⟩, .int .i64 a, .int .i64 0] 23)) from below_alloc_l (HB.out))
  generalize hh3 : (w3.alloc (.cells #[.int .i64 k, .string x1, .string ⟨#[]⟩, .int .i64 a, .int .i64 0] 23)) = v3 at *
  clear hh3
  refine (HH2.out _ (HE.out.below HB.out)).mono ?_
  rintro e w4 ⟨rfl, hb⟩
  replace cxf0 := (hb.frozen (World.block_lt_of_cell? _ _ cx0)).trans cxf0
  replace cx0 := (hb.cell (World.block_lt_of_cell? _ _ cx0)).trans cx0
  replace cxf1 := (hb.frozen (World.block_lt_of_cell? _ _ cx1)).trans cxf1
  replace cx1 := (hb.cell (World.block_lt_of_cell? _ _ cx1)).trans cx1
  replace cxf2 := (hb.frozen (World.block_lt_of_cell? _ _ cx2)).trans cxf2
  replace cx2 := (hb.cell (World.block_lt_of_cell? _ _ cx2)).trans cx2
  replace cxf3 := (hb.frozen (World.block_lt_of_cell? _ _ cx3)).trans cxf3
  replace cx3 := (hb.cell (World.block_lt_of_cell? _ _ cx3)).trans cx3
  replace cxf4 := (hb.frozen (World.block_lt_of_cell? _ _ cx4)).trans cxf4
  replace cx4 := (hb.cell (World.block_lt_of_cell? _ _ cx4)).trans cx4
  replace ca0 := (hb.cell (World.block_lt_of_cell? _ _ ca0)).trans ca0
  replace ca1 := (hb.cell (World.block_lt_of_cell? _ _ ca1)).trans ca1
  replace ca2 := (hb.cell (World.block_lt_of_cell? _ _ ca2)).trans ca2
  replace ca3 := (hb.cell (World.block_lt_of_cell? _ _ ca3)).trans ca3
  replace ca4 := (hb.cell (World.block_lt_of_cell? _ _ ca4)).trans ca4
  replace HB := Lib.hid (HB.out.trans (hb.mono HB.out.size))
  clear hb
  have hlb_cx := World.block_lt_of_cell? _ _ cx0
  have hlb_ca := World.block_lt_of_cell? _ _ ca0
  have lvcx0 : (w4.alloc (.cells #[.int .i64 k, .string x1, .string ⟨#[]⟩, .int .i64 a, .int .i64 0] 23)).cell? ⟨w.heap.size, 0, none⟩ = some (.int .i64 k) := cell_al cx0
  have lvcx1 : (w4.alloc (.cells #[.int .i64 k, .string x1, .string ⟨#[]⟩, .int .i64 a, .int .i64 0] 23)).cell? ⟨w.heap.size, 1, none⟩ = some (.string x1) := cell_al cx1
  have lvcx2 : (w4.alloc (.cells #[.int .i64 k, .string x1, .string ⟨#[]⟩, .int .i64 a, .int .i64 0] 23)).cell? ⟨w.heap.size, 2, none⟩ = some (.string x2) := cell_al cx2
  have lvcx3 : (w4.alloc (.cells #[.int .i64 k, .string x1, .string ⟨#[]⟩, .int .i64 a, .int .i64 0] 23)).cell? ⟨w.heap.size, 3, none⟩ = some (.int .i64 a) := cell_al cx3
  have lvcx4 : (w4.alloc (.cells #[.int .i64 k, .string x1, .string ⟨#[]⟩, .int .i64 a, .int .i64 0] 23)).cell? ⟨w.heap.size, 4, none⟩ = some (.int .i64 b) := cell_al cx4
  have lvca0 : (w4.alloc (.cells #[.int .i64 k, .string x1, .string ⟨#[]⟩, .int .i64 a, .int .i64 0] 23)).cell? ⟨w3.heap.size, 0, none⟩ = some (.int .i64 k) := cell_al ca0
  have lvca1 : (w4.alloc (.cells #[.int .i64 k, .string x1, .string ⟨#[]⟩, .int .i64 a, .int .i64 0] 23)).cell? ⟨w3.heap.size, 1, none⟩ = some (.string x1) := cell_al ca1
  have lvca2 : (w4.alloc (.cells #[.int .i64 k, .string x1, .string ⟨#[]⟩, .int .i64 a, .int .i64 0] 23)).cell? ⟨w3.heap.size, 2, none⟩ = some (.string ⟨#[]⟩) := cell_al ca2
  have lvca3 : (w4.alloc (.cells #[.int .i64 k, .string x1, .string ⟨#[]⟩, .int .i64 a, .int .i64 0] 23)).cell? ⟨w3.heap.size, 3, none⟩ = some (.int .i64 a) := cell_al ca3
  have lvca4 : (w4.alloc (.cells #[.int .i64 k, .string x1, .string ⟨#[]⟩, .int .i64 a, .int .i64 0] 23)).cell? ⟨w3.heap.size, 4, none⟩ = some (.int .i64 0) := cell_al ca4
  go_wp2_with fail
  replace cx0 : ((w4.alloc (.cells #[.int .i64 k, .string x1, .string ⟨#[]⟩, .int .i64 a, .int .i64 0] 23)).alloc (.cells #[.int .i64 k, .string x1, .string y2, .int .i64 a, .int .i64 b] 23)).cell? ⟨w.heap.size, 0, none⟩ = some (.int .i64 k) := cell_al lvcx0
  clear cxf0
  replace cx1 : ((w4.alloc (.cells #[.int .i64 k, .string x1, .string ⟨#[]⟩, .int .i64 a, .int .i64 0] 23)).alloc (.cells #[.int .i64 k, .string x1, .string y2, .int .i64 a, .int .i64 b] 23)).cell? ⟨w.heap.size, 1, none⟩ = some (.string x1) := cell_al lvcx1
  clear cxf1
  replace cx2 : ((w4.alloc (.cells #[.int .i64 k, .string x1, .string ⟨#[]⟩, .int .i64 a, .int .i64 0] 23)).alloc (.cells #[.int .i64 k, .string x1, .string y2, .int .i64 a, .int .i64 b] 23)).cell? ⟨w.heap.size, 2, none⟩ = some (.string x2) := cell_al lvcx2
  clear cxf2
  replace cx3 : ((w4.alloc (.cells #[.int .i64 k, .string x1, .string ⟨#[]⟩, .int .i64 a, .int .i64 0] 23)).alloc (.cells #[.int .i64 k, .string x1, .string y2, .int .i64 a, .int .i64 b] 23)).cell? ⟨w.heap.size, 3, none⟩ = some (.int .i64 a) := cell_al lvcx3
  clear cxf3
  replace cx4 : ((w4.alloc (.cells #[.int .i64 k, .string x1, .string ⟨#[]⟩, .int .i64 a, .int .i64 0] 23)).alloc (.cells #[.int .i64 k, .string x1, .string y2, .int .i64 a, .int .i64 b] 23)).cell? ⟨w.heap.size, 4, none⟩ = some (.int .i64 b) := cell_al lvcx4
  clear cxf4
  replace ca0 : ((w4.alloc (.cells #[.int .i64 k, .string x1, .string ⟨#[]⟩, .int .i64 a, .int .i64 0] 23)).alloc (.cells #[.int .i64 k, .string x1, .string y2, .int .i64 a, .int .i64 b] 23)).cell? ⟨w3.heap.size, 0, none⟩ = some (.int .i64 k) := cell_al lvca0
  replace ca1 : ((w4.alloc (.cells #[.int .i64 k, .string x1, .string ⟨#[]⟩, .int .i64 a, .int .i64 0] 23)).alloc (.cells #[.int .i64 k, .string x1, .string y2, .int .i64 a, .int .i64 b] 23)).cell? ⟨w3.heap.size, 1, none⟩ = some (.string x1) := cell_al lvca1
  replace ca2 : ((w4.alloc (.cells #[.int .i64 k, .string x1, .string ⟨#[]⟩, .int .i64 a, .int .i64 0] 23)).alloc (.cells #[.int .i64 k, .string x1, .string y2, .int .i64 a, .int .i64 b] 23)).cell? ⟨w3.heap.size, 2, none⟩ = some (.string ⟨#[]⟩) := cell_al lvca2
  replace ca3 : ((w4.alloc (.cells #[.int .i64 k, .string x1, .string ⟨#[]⟩, .int .i64 a, .int .i64 0] 23)).alloc (.cells #[.int .i64 k, .string x1, .string y2, .int .i64 a, .int .i64 b] 23)).cell? ⟨w3.heap.size, 3, none⟩ = some (.int .i64 a) := cell_al lvca3
  replace ca4 : ((w4.alloc (.cells #[.int .i64 k, .string x1, .string ⟨#[]⟩, .int .i64 a, .int .i64 0] 23)).alloc (.cells #[.int .i64 k, .string x1, .string y2, .int .i64 a, .int .i64 b] 23)).cell? ⟨w3.heap.size, 4, none⟩ = some (.int .i64 0) := cell_al lvca4
  have cb0 : ((w4.alloc (.cells #[.int .i64 k, .string x1, .string ⟨#[]⟩, .int .i64 a, .int .i64 0] 23)).alloc (.cells #[.int .i64 k, .string x1, .string y2, .int .i64 a, .int .i64 b] 23)).cell? ⟨w4.heap.size, 0, none⟩ = some (.int .i64 k) := by go_simp
  have cb1 : ((w4.alloc (.cells #[.int .i64 k, .string x1, .string ⟨#[]⟩, .int .i64 a, .int .i64 0] 23)).alloc (.cells #[.int .i64 k, .string x1, .string y2, .int .i64 a, .int .i64 b] 23)).cell? ⟨w4.heap.size, 1, none⟩ = some (.string x1) := by go_simp
  have cb2 : ((w4.alloc (.cells #[.int .i64 k, .string x1, .string ⟨#[]⟩, .int .i64 a, .int .i64 0] 23)).alloc (.cells #[.int .i64 k, .string x1, .string y2, .int .i64 a, .int .i64 b] 23)).cell? ⟨w4.heap.size, 2, none⟩ = some (.string ⟨#[]⟩) := by go_simp
  have cb3 : ((w4.alloc (.cells #[.int .i64 k, .string x1, .string ⟨#[]⟩, .int .i64 a, .int .i64 0] 23)).alloc (.cells #[.int .i64 k, .string x1, .string y2, .int .i64 a, .int .i64 b] 23)).cell? ⟨w4.heap.size, 3, none⟩ = some (.int .i64 a) := by go_simp
  have cb4 : ((w4.alloc (.cells #[.int .i64 k, .string x1, .string ⟨#[]⟩, .int .i64 a, .int .i64 0] 23)).alloc (.cells #[.int .i64 k, .string x1, .string y2, .int .i64 a, .int .i64 b] 23)).cell? ⟨w4.heap.size, 4, none⟩ = some (.int .i64 0) := by go_simp
  clear lvcx0 lvcx1 lvcx2 lvcx3 lvcx4 lvca0 lvca1 lvca2 lvca3 lvca4
  replace HB := Lib.hid (show Below w.heap.size w ((w4.alloc (.cells #[.int .i64 k, .string x1, .string ⟨#[]⟩, .int .i64 a, .int .i64 0] 23)).alloc (.cells #[.int .i64 k, .string x1, .string y2, .int .i64 a, .int .i64 b] 23)) from below_alloc_l (below_alloc_l HB.out))
  generalize hh4 : ((w4.alloc (.cells #[.int .i64 k, .string x1, .string ⟨#[]⟩, .int .i64 a, .int .i64 0] 23)).alloc (.cells #[.int .i64 k, .string x1, .string y2, .int .i64 a, .int .i64 b] 23)) = v4 at *
  clear hh4
  refine (HH3.out _ (HE.out.below HB.out)).mono ?_
  rintro e w5 ⟨rfl, hb⟩
  replace cx0 := (hb.cell (World.block_lt_of_cell? _ _ cx0)).trans cx0
  replace cx1 := (hb.cell (World.block_lt_of_cell? _ _ cx1)).trans cx1
  replace cx2 := (hb.cell (World.block_lt_of_cell? _ _ cx2)).trans cx2
  replace cx3 := (hb.cell (World.block_lt_of_cell? _ _ cx3)).trans cx3
  replace cx4 := (hb.cell (World.block_lt_of_cell? _ _ cx4)).trans cx4
  replace ca0 := (hb.cell (World.block_lt_of_cell? _ _ ca0)).trans ca0
  replace ca1 := (hb.cell (World.block_lt_of_cell? _ _ ca1)).trans ca1
  replace ca2 := (hb.cell (World.block_lt_of_cell? _ _ ca2)).trans ca2
  replace ca3 := (hb.cell (World.block_lt_of_cell? _ _ ca3)).trans ca3
  replace ca4 := (hb.cell (World.block_lt_of_cell? _ _ ca4)).trans ca4
  replace cb0 := (hb.cell (World.block_lt_of_cell? _ _ cb0)).trans cb0
  replace cb1 := (hb.cell (World.block_lt_of_cell? _ _ cb1)).trans cb1
  replace cb2 := (hb.cell (World.block_lt_of_cell? _ _ cb2)).trans cb2
  replace cb3 := (hb.cell (World.block_lt_of_cell? _ _ cb3)).trans cb3
  replace cb4 := (hb.cell (World.block_lt_of_cell? _ _ cb4)).trans cb4
  replace HB := Lib.hid (HB.out.trans (hb.mono HB.out.size))
  clear hb
  clear HH1 HH2 HH3 HCUT
  rcases ho with hn | ⟨hn, rfl, rfl, rfl, rfl, rfl⟩
  · have hlz_cx := World.block_lt_of_cell? _ _ cx0
    replace cx0 : (w5.alloc (.cells #[.int .i64 c0, .string c1, .string c2, .int .i64 c3, .int .i64 c4] 23)).cell? ⟨w.heap.size, 0, none⟩ = some (.int .i64 k) := cell_al cx0
    replace cx1 : (w5.alloc (.cells #[.int .i64 c0, .string c1, .string c2, .int .i64 c3, .int .i64 c4] 23)).cell? ⟨w.heap.size, 1, none⟩ = some (.string x1) := cell_al cx1
    replace cx2 : (w5.alloc (.cells #[.int .i64 c0, .string c1, .string c2, .int .i64 c3, .int .i64 c4] 23)).cell? ⟨w.heap.size, 2, none⟩ = some (.string x2) := cell_al cx2
    replace cx3 : (w5.alloc (.cells #[.int .i64 c0, .string c1, .string c2, .int .i64 c3, .int .i64 c4] 23)).cell? ⟨w.heap.size, 3, none⟩ = some (.int .i64 a) := cell_al cx3
    replace cx4 : (w5.alloc (.cells #[.int .i64 c0, .string c1, .string c2, .int .i64 c3, .int .i64 c4] 23)).cell? ⟨w.heap.size, 4, none⟩ = some (.int .i64 b) := cell_al cx4
    have hlz_ca := World.block_lt_of_cell? _ _ ca0
    replace ca0 : (w5.alloc (.cells #[.int .i64 c0, .string c1, .string c2, .int .i64 c3, .int .i64 c4] 23)).cell? ⟨w3.heap.size, 0, none⟩ = some (.int .i64 k) := cell_al ca0
    replace ca1 : (w5.alloc (.cells #[.int .i64 c0, .string c1, .string c2, .int .i64 c3, .int .i64 c4] 23)).cell? ⟨w3.heap.size, 1, none⟩ = some (.string x1) := cell_al ca1
    replace ca2 : (w5.alloc (.cells #[.int .i64 c0, .string c1, .string c2, .int .i64 c3, .int .i64 c4] 23)).cell? ⟨w3.heap.size, 2, none⟩ = some (.string ⟨#[]⟩) := cell_al ca2
    replace ca3 : (w5.alloc (.cells #[.int .i64 c0, .string c1, .string c2, .int .i64 c3, .int .i64 c4] 23)).cell? ⟨w3.heap.size, 3, none⟩ = some (.int .i64 a) := cell_al ca3
    replace ca4 : (w5.alloc (.cells #[.int .i64 c0, .string c1, .string c2, .int .i64 c3, .int .i64 c4] 23)).cell? ⟨w3.heap.size, 4, none⟩ = some (.int .i64 0) := cell_al ca4
    have hlz_cb := World.block_lt_of_cell? _ _ cb0
    replace cb0 : (w5.alloc (.cells #[.int .i64 c0, .string c1, .string c2, .int .i64 c3, .int .i64 c4] 23)).cell? ⟨w4.heap.size, 0, none⟩ = some (.int .i64 k) := cell_al cb0
    replace cb1 : (w5.alloc (.cells #[.int .i64 c0, .string c1, .string c2, .int .i64 c3, .int .i64 c4] 23)).cell? ⟨w4.heap.size, 1, none⟩ = some (.string x1) := cell_al cb1
    replace cb2 : (w5.alloc (.cells #[.int .i64 c0, .string c1, .string c2, .int .i64 c3, .int .i64 c4] 23)).cell? ⟨w4.heap.size, 2, none⟩ = some (.string ⟨#[]⟩) := cell_al cb2
    replace cb3 : (w5.alloc (.cells #[.int .i64 c0, .string c1, .string c2, .int .i64 c3, .int .i64 c4] 23)).cell? ⟨w4.heap.size, 3, none⟩ = some (.int .i64 a) := cell_al cb3
    replace cb4 : (w5.alloc (.cells #[.int .i64 c0, .string c1, .string c2, .int .i64 c3, .int .i64 c4] 23)).cell? ⟨w4.heap.size, 4, none⟩ = some (.int .i64 0) := cell_al cb4
    replace HB := Lib.hid (show Below w.heap.size w (w5.alloc (.cells #[.int .i64 c0, .string c1, .string c2, .int .i64 c3, .int .i64 c4] 23)) from below_alloc_l HB.out)
    go_wp2_with fail
    generalize hhz : (w5.alloc (.cells #[.int .i64 c0, .string c1, .string c2, .int .i64 c3, .int .i64 c4] 23)) = vz at *
    clear hhz
    refine (HR.out _ (HE.out.below HB.out)).mono ?_
    rintro e wz ⟨rfl, hb⟩
    replace cx0 := (hb.cell (World.block_lt_of_cell? _ _ cx0)).trans cx0
    replace cx1 := (hb.cell (World.block_lt_of_cell? _ _ cx1)).trans cx1
    replace cx2 := (hb.cell (World.block_lt_of_cell? _ _ cx2)).trans cx2
    replace cx3 := (hb.cell (World.block_lt_of_cell? _ _ cx3)).trans cx3
    replace cx4 := (hb.cell (World.block_lt_of_cell? _ _ cx4)).trans cx4
    replace ca0 := (hb.cell (World.block_lt_of_cell? _ _ ca0)).trans ca0
    replace ca1 := (hb.cell (World.block_lt_of_cell? _ _ ca1)).trans ca1
    replace ca2 := (hb.cell (World.block_lt_of_cell? _ _ ca2)).trans ca2
    replace ca3 := (hb.cell (World.block_lt_of_cell? _ _ ca3)).trans ca3
    replace ca4 := (hb.cell (World.block_lt_of_cell? _ _ ca4)).trans ca4
    replace cb0 := (hb.cell (World.block_lt_of_cell? _ _ cb0)).trans cb0
    replace cb1 := (hb.cell (World.block_lt_of_cell? _ _ cb1)).trans cb1
    replace cb2 := (hb.cell (World.block_lt_of_cell? _ _ cb2)).trans cb2
    replace cb3 := (hb.cell (World.block_lt_of_cell? _ _ cb3)).trans cb3
    replace cb4 := (hb.cell (World.block_lt_of_cell? _ _ cb4)).trans cb4
    replace HB := Lib.hid (HB.out.trans (hb.mono HB.out.size))
    clear hb
    go_wp2_with fail
    go_ret
    exact ⟨rfl, HB.out⟩
  · have hlz_cx := World.block_lt_of_cell? _ _ cx0
    replace cx0 : (w5.alloc (.cells #[.int .i64 k, .string x1, .string ⟨#[]⟩, .int .i64 a, .int .i64 0] 23)).cell? ⟨w.heap.size, 0, none⟩ = some (.int .i64 k) := cell_al cx0
    replace cx1 : (w5.alloc (.cells #[.int .i64 k, .string x1, .string ⟨#[]⟩, .int .i64 a, .int .i64 0] 23)).cell? ⟨w.heap.size, 1, none⟩ = some (.string x1) := cell_al cx1
    replace cx2 : (w5.alloc (.cells #[.int .i64 k, .string x1, .string ⟨#[]⟩, .int .i64 a, .int .i64 0] 23)).cell? ⟨w.heap.size, 2, none⟩ = some (.string x2) := cell_al cx2
    replace cx3 : (w5.alloc (.cells #[.int .i64 k, .string x1, .string ⟨#[]⟩, .int .i64 a, .int .i64 0] 23)).cell? ⟨w.heap.size, 3, none⟩ = some (.int .i64 a) := cell_al cx3
    replace cx4 : (w5.alloc (.cells #[.int .i64 k, .string x1, .string ⟨#[]⟩, .int .i64 a, .int .i64 0] 23)).cell? ⟨w.heap.size, 4, none⟩ = some (.int .i64 b) := cell_al cx4
    have hlz_ca := World.block_lt_of_cell? _ _ ca0
    replace ca0 : (w5.alloc (.cells #[.int .i64 k, .string x1, .string ⟨#[]⟩, .int .i64 a, .int .i64 0] 23)).cell? ⟨w3.heap.size, 0, none⟩ = some (.int .i64 k) := cell_al ca0
    replace ca1 : (w5.alloc (.cells #[.int .i64 k, .string x1, .string ⟨#[]⟩, .int .i64 a, .int .i64 0] 23)).cell? ⟨w3.heap.size, 1, none⟩ = some (.string x1) := cell_al ca1
    replace ca2 : (w5.alloc (.cells #[.int .i64 k, .string x1, .string ⟨#[]⟩, .int .i64 a, .int .i64 0] 23)).cell? ⟨w3.heap.size, 2, none⟩ = some (.string ⟨#[]⟩) := cell_al ca2
    replace ca3 : (w5.alloc (.cells #[.int .i64 k, .string x1, .string ⟨#[]⟩, .int .i64 a, .int .i64 0] 23)).cell? ⟨w3.heap.size, 3, none⟩ = some (.int .i64 a) := cell_al ca3
    replace ca4 : (w5.alloc (.cells #[.int .i64 k, .string x1, .string ⟨#[]⟩, .int .i64 a, .int .i64 0] 23)).cell? ⟨w3.heap.size, 4, none⟩ = some (.int .i64 0) := cell_al ca4
    have hlz_cb := World.block_lt_of_cell? _ _ cb0
    replace cb0 : (w5.alloc (.cells #[.int .i64 k, .string x1, .string ⟨#[]⟩, .int .i64 a, .int .i64 0] 23)).cell? ⟨w4.heap.size, 0, none⟩ = some (.int .i64 k) := cell_al cb0
    replace cb1 : (w5.alloc (.cells #[.int .i64 k, .string x1, .string ⟨#[]⟩, .int .i64 a, .int .i64 0] 23)).cell? ⟨w4.heap.size, 1, none⟩ = some (.string x1) := cell_al cb1
    replace cb2 : (w5.alloc (.cells #[.int .i64 k, .string x1, .string ⟨#[]⟩, .int .i64 a, .int .i64 0] 23)).cell? ⟨w4.heap.size, 2, none⟩ = some (.string ⟨#[]⟩) := cell_al cb2
    replace cb3 : (w5.alloc (.cells #[.int .i64 k, .string x1, .string ⟨#[]⟩, .int .i64 a, .int .i64 0] 23)).cell? ⟨w4.heap.size, 3, none⟩ = some (.int .i64 a) := cell_al cb3
    replace cb4 : (w5.alloc (.cells #[.int .i64 k, .string x1, .string ⟨#[]⟩, .int .i64 a, .int .i64 0] 23)).cell? ⟨w4.heap.size, 4, none⟩ = some (.int .i64 0) := cell_al cb4
    have cc0 : (w5.alloc (.cells #[.int .i64 k, .string x1, .string ⟨#[]⟩, .int .i64 a, .int .i64 0] 23)).cell? ⟨w5.heap.size, 0, none⟩ = some (.int .i64 k) := by go_simp
    have cc1 : (w5.alloc (.cells #[.int .i64 k, .string x1, .string ⟨#[]⟩, .int .i64 a, .int .i64 0] 23)).cell? ⟨w5.heap.size, 1, none⟩ = some (.string x1) := by go_simp
    have cc2 : (w5.alloc (.cells #[.int .i64 k, .string x1, .string ⟨#[]⟩, .int .i64 a, .int .i64 0] 23)).cell? ⟨w5.heap.size, 2, none⟩ = some (.string ⟨#[]⟩) := by go_simp
    have cc3 : (w5.alloc (.cells #[.int .i64 k, .string x1, .string ⟨#[]⟩, .int .i64 a, .int .i64 0] 23)).cell? ⟨w5.heap.size, 3, none⟩ = some (.int .i64 a) := by go_simp
    have cc4 : (w5.alloc (.cells #[.int .i64 k, .string x1, .string ⟨#[]⟩, .int .i64 a, .int .i64 0] 23)).cell? ⟨w5.heap.size, 4, none⟩ = some (.int .i64 0) := by go_simp
    replace HB := Lib.hid (show Below w.heap.size w (w5.alloc (.cells #[.int .i64 k, .string x1, .string ⟨#[]⟩, .int .i64 a, .int .i64 0] 23)) from below_alloc_l HB.out)
    go_wp2_with fail
    generalize hhz : (w5.alloc (.cells #[.int .i64 k, .string x1, .string ⟨#[]⟩, .int .i64 a, .int .i64 0] 23)) = vz at *
    clear hhz
    refine (HR.out _ (HE.out.below HB.out)).mono ?_
    rintro e wz ⟨rfl, hb⟩
    replace cx0 := (hb.cell (World.block_lt_of_cell? _ _ cx0)).trans cx0
    replace cx1 := (hb.cell (World.block_lt_of_cell? _ _ cx1)).trans cx1
    replace cx2 := (hb.cell (World.block_lt_of_cell? _ _ cx2)).trans cx2
    replace cx3 := (hb.cell (World.block_lt_of_cell? _ _ cx3)).trans cx3
    replace cx4 := (hb.cell (World.block_lt_of_cell? _ _ cx4)).trans cx4
    replace ca0 := (hb.cell (World.block_lt_of_cell? _ _ ca0)).trans ca0
    replace ca1 := (hb.cell (World.block_lt_of_cell? _ _ ca1)).trans ca1
    replace ca2 := (hb.cell (World.block_lt_of_cell? _ _ ca2)).trans ca2
    replace ca3 := (hb.cell (World.block_lt_of_cell? _ _ ca3)).trans ca3
    replace ca4 := (hb.cell (World.block_lt_of_cell? _ _ ca4)).trans ca4
    replace cb0 := (hb.cell (World.block_lt_of_cell? _ _ cb0)).trans cb0
    replace cb1 := (hb.cell (World.block_lt_of_cell? _ _ cb1)).trans cb1
    replace cb2 := (hb.cell (World.block_lt_of_cell? _ _ cb2)).trans cb2
    replace cb3 := (hb.cell (World.block_lt_of_cell? _ _ cb3)).trans cb3
    replace cb4 := (hb.cell (World.block_lt_of_cell? _ _ cb4)).trans cb4
    replace cc0 := (hb.cell (World.block_lt_of_cell? _ _ cc0)).trans cc0
    replace cc1 := (hb.cell (World.block_lt_of_cell? _ _ cc1)).trans cc1
    replace cc2 := (hb.cell (World.block_lt_of_cell? _ _ cc2)).trans cc2
    replace cc3 := (hb.cell (World.block_lt_of_cell? _ _ cc3)).trans cc3
    replace cc4 := (hb.cell (World.block_lt_of_cell? _ _ cc4)).trans cc4
    replace HB := Lib.hid (HB.out.trans (hb.mono HB.out.size))
    clear hb
    go_wp2_with fail
    go_ret
    exact ⟨rfl, HB.out⟩

set_option maxRecDepth 100000 in
set_option maxHeartbeats 4000000 in
theorem homes_oth (k : Int) (nd sv t x1 x2 y2 : ByteArray) (a b n : Int) (w : World) (hk : (k == 1) = false) (ht : t.size ≤ maxLen) (hy : t.extract 0 (min t.size 21) = y2) (HE : Hid (EnvN w)) (c0 c3 c4 : Int) (c1 c2 : ByteArray) (q : Bool)
    (HCUT : Hid (∀ W, Calls Tryd.prog 9 #[.agg #[.int .i64 k, .string nd, .string sv, .int .i64 a, .int .i64 b]] W fun e w' => e = .returned (.agg #[.int .i64 k, .string x1, .string x2, .int .i64 a, .int .i64 b]) ∧ Below W.heap.size W w'))
    (HH1 : Hid (∀ W, EnvN W → Calls Tryd.prog 19 #[.agg #[.int .i64 k, .string x1, .string x2, .int .i64 a, .int .i64 b]] W fun e w' => e = .returned (.tuple #[.agg #[.int .i64 k, .string x1, .string ⟨#[]⟩, .int .i64 a, .int .i64 0], .int .i64 0]) ∧ Below W.heap.size W w'))
    (HH2 : Hid (∀ W, EnvN W → Calls Tryd.prog 19 #[.agg #[.int .i64 k, .string x1, .string ⟨#[]⟩, .int .i64 a, .int .i64 0]] W fun e w' => e = .returned (.tuple #[.agg #[.int .i64 k, .string x1, .string ⟨#[]⟩, .int .i64 a, .int .i64 0], .int .i64 0]) ∧ Below W.heap.size W w'))
    (HR : Hid (∀ W, EnvN W → Calls Tryd.prog 21 #[.agg #[.int .i64 k, .string x1, .string ⟨#[]⟩, .int .i64 a, .int .i64 0]] W fun e w' => e = .returned (.bool true) ∧ Below W.heap.size W w'))
    (ho : (n != 0) = true ∨ (n != 0) = false ∧ k = c0 ∧ x1 = c1 ∧ c2 = ⟨#[]⟩ ∧ a = c3 ∧ c4 = 0)
    (HH3 : Hid (∀ W, EnvN W → Calls Tryd.prog 19 #[.agg #[.int .i64 k, .string x1, .string x2, .int .i64 a, .int .i64 b]] W fun e w' => e = .returned (.tuple #[.agg #[.int .i64 c0, .string c1, .string c2, .int .i64 c3, .int .i64 c4], .int .i64 n]) ∧ Below W.heap.size W w')) :
    Calls Tryd.prog 6 #[.agg #[.int .i64 k, .string nd, .string sv, .int .i64 a, .int .i64 b], .string t] w fun e w' => e = .returned (.bool true) ∧ Below w.heap.size w w' := by
  unfold maxLen at ht
  have et : (min (t.size : Int) 21).toNat = min t.size 21 := by omega
  have g1 : (0 : Int) ≤ min (t.size : Int) 21 := by omega
  have g2 : min (t.size : Int) 21 ≤ (t.size : Int) := by omega
  have e1 : ∀ W : World, (binOp .eql 23 (.agg #[.int .i64 k, .string x1, .string ⟨#[]⟩, .int .i64 a, .int .i64 0]) (.agg #[.int .i64 k, .string x1, .string ⟨#[]⟩, .int .i64 a, .int .i64 0])).run Tryd.prog W = .ok (.bool true) W := fun W => by rw [nm_eql, nmE_iff.2 ⟨rfl, rfl, rfl, rfl, rfl⟩]
  go_enter Tryd.func6, Tryd.ntmps6
  go_wp2_with fail
  have cx0 : (w.alloc (.cells #[.int .i64 k, .string nd, .string sv, .int .i64 a, .int .i64 b] 23)).cell? ⟨w.heap.size, 0, none⟩ = some (.int .i64 k) := by go_simp
  have cxf0 : (w.alloc (.cells #[.int .i64 k, .string nd, .string sv, .int .i64 a, .int .i64 b] 23)).frozen? ⟨w.heap.size, 0, none⟩ = false := by go_simp
  have cx1 : (w.alloc (.cells #[.int .i64 k, .string nd, .string sv, .int .i64 a, .int .i64 b] 23)).cell? ⟨w.heap.size, 1, none⟩ = some (.string nd) := by go_simp
  have cxf1 : (w.alloc (.cells #[.int .i64 k, .string nd, .string sv, .int .i64 a, .int .i64 b] 23)).frozen? ⟨w.heap.size, 1, none⟩ = false := by go_simp
  have cx2 : (w.alloc (.cells #[.int .i64 k, .string nd, .string sv, .int .i64 a, .int .i64 b] 23)).cell? ⟨w.heap.size, 2, none⟩ = some (.string sv) := by go_simp
  have cxf2 : (w.alloc (.cells #[.int .i64 k, .string nd, .string sv, .int .i64 a, .int .i64 b] 23)).frozen? ⟨w.heap.size, 2, none⟩ = false := by go_simp
  have cx3 : (w.alloc (.cells #[.int .i64 k, .string nd, .string sv, .int .i64 a, .int .i64 b] 23)).cell? ⟨w.heap.size, 3, none⟩ = some (.int .i64 a) := by go_simp
  have cxf3 : (w.alloc (.cells #[.int .i64 k, .string nd, .string sv, .int .i64 a, .int .i64 b] 23)).frozen? ⟨w.heap.size, 3, none⟩ = false := by go_simp
  have cx4 : (w.alloc (.cells #[.int .i64 k, .string nd, .string sv, .int .i64 a, .int .i64 b] 23)).cell? ⟨w.heap.size, 4, none⟩ = some (.int .i64 b) := by go_simp
  have cxf4 : (w.alloc (.cells #[.int .i64 k, .string nd, .string sv, .int .i64 a, .int .i64 b] 23)).frozen? ⟨w.heap.size, 4, none⟩ = false := by go_simp
  have HB := Lib.hid (show Below w.heap.size w (w.alloc (.cells #[.int .i64 k, .string nd, .string sv, .int .i64 a, .int .i64 b] 23)) from below_alloc_l (Below.refl _ _))
  generalize hh1 : (w.alloc (.cells #[.int .i64 k, .string nd, .string sv, .int .i64 a, .int .i64 b] 23)) = v1 at *
  clear hh1
  refine (shown_any _ (HE.out.below HB.out)).mono ?_
  rintro e w1 ⟨rfl, hb⟩
  replace cxf0 := (hb.frozen (World.block_lt_of_cell? _ _ cx0)).trans cxf0
  replace cx0 := (hb.cell (World.block_lt_of_cell? _ _ cx0)).trans cx0
  replace cxf1 := (hb.frozen (World.block_lt_of_cell? _ _ cx1)).trans cxf1
  replace cx1 := (hb.cell (World.block_lt_of_cell? _ _ cx1)).trans cx1
  replace cxf2 := (hb.frozen (World.block_lt_of_cell? _ _ cx2)).trans cxf2
  replace cx2 := (hb.cell (World.block_lt_of_cell? _ _ cx2)).trans cx2
  replace cxf3 := (hb.frozen (World.block_lt_of_cell? _ _ cx3)).trans cxf3
  replace cx3 := (hb.cell (World.block_lt_of_cell? _ _ cx3)).trans cx3
  replace cxf4 := (hb.frozen (World.block_lt_of_cell? _ _ cx4)).trans cxf4
  replace cx4 := (hb.cell (World.block_lt_of_cell? _ _ cx4)).trans cx4
  replace HB := Lib.hid (HB.out.trans (hb.mono HB.out.size))
  clear hb
  go_wp2_with fail
  refine (HCUT.out _).mono ?_
  rintro e w2 ⟨rfl, hb⟩
  replace cxf0 := (hb.frozen (World.block_lt_of_cell? _ _ cx0)).trans cxf0
  replace cx0 := (hb.cell (World.block_lt_of_cell? _ _ cx0)).trans cx0
  replace cxf1 := (hb.frozen (World.block_lt_of_cell? _ _ cx1)).trans cxf1
  replace cx1 := (hb.cell (World.block_lt_of_cell? _ _ cx1)).trans cx1
  replace cxf2 := (hb.frozen (World.block_lt_of_cell? _ _ cx2)).trans cxf2
  replace cx2 := (hb.cell (World.block_lt_of_cell? _ _ cx2)).trans cx2
  replace cxf3 := (hb.frozen (World.block_lt_of_cell? _ _ cx3)).trans cxf3
  replace cx3 := (hb.cell (World.block_lt_of_cell? _ _ cx3)).trans cx3
  replace cxf4 := (hb.frozen (World.block_lt_of_cell? _ _ cx4)).trans cxf4
  replace cx4 := (hb.cell (World.block_lt_of_cell? _ _ cx4)).trans cx4
  replace HB := Lib.hid (HB.out.trans (hb.mono HB.out.size))
  clear hb
  go_wp2_with fail
  have k5 := set5 (v0 := .int .i64 k) (v1 := .string x1) (v2 := .string x2) (v3 := .int .i64 a) (v4 := .int .i64 b) cx0 cx1 cx2 cx3 cx4
  replace cxf0 : (((((w2.setCell ⟨w.heap.size, 0, none⟩ (.int .i64 k)).setCell ⟨w.heap.size, 1, none⟩ (.string x1)).setCell ⟨w.heap.size, 2, none⟩ (.string x2)).setCell ⟨w.heap.size, 3, none⟩ (.int .i64 a)).setCell ⟨w.heap.size, 4, none⟩ (.int .i64 b)).frozen? ⟨w.heap.size, 0, none⟩ = false := frozen_set5 cxf0
  replace cxf1 : (((((w2.setCell ⟨w.heap.size, 0, none⟩ (.int .i64 k)).setCell ⟨w.heap.size, 1, none⟩ (.string x1)).setCell ⟨w.heap.size, 2, none⟩ (.string x2)).setCell ⟨w.heap.size, 3, none⟩ (.int .i64 a)).setCell ⟨w.heap.size, 4, none⟩ (.int .i64 b)).frozen? ⟨w.heap.size, 1, none⟩ = false := frozen_set5 cxf1
  replace cxf2 : (((((w2.setCell ⟨w.heap.size, 0, none⟩ (.int .i64 k)).setCell ⟨w.heap.size, 1, none⟩ (.string x1)).setCell ⟨w.heap.size, 2, none⟩ (.string x2)).setCell ⟨w.heap.size, 3, none⟩ (.int .i64 a)).setCell ⟨w.heap.size, 4, none⟩ (.int .i64 b)).frozen? ⟨w.heap.size, 2, none⟩ = false := frozen_set5 cxf2
  replace cxf3 : (((((w2.setCell ⟨w.heap.size, 0, none⟩ (.int .i64 k)).setCell ⟨w.heap.size, 1, none⟩ (.string x1)).setCell ⟨w.heap.size, 2, none⟩ (.string x2)).setCell ⟨w.heap.size, 3, none⟩ (.int .i64 a)).setCell ⟨w.heap.size, 4, none⟩ (.int .i64 b)).frozen? ⟨w.heap.size, 3, none⟩ = false := frozen_set5 cxf3
  replace cxf4 : (((((w2.setCell ⟨w.heap.size, 0, none⟩ (.int .i64 k)).setCell ⟨w.heap.size, 1, none⟩ (.string x1)).setCell ⟨w.heap.size, 2, none⟩ (.string x2)).setCell ⟨w.heap.size, 3, none⟩ (.int .i64 a)).setCell ⟨w.heap.size, 4, none⟩ (.int .i64 b)).frozen? ⟨w.heap.size, 4, none⟩ = false := frozen_set5 cxf4
  clear cx0 cx1 cx2 cx3 cx4
  obtain ⟨cx0, cx1, cx2, cx3, cx4⟩ := k5
  have hge : w.heap.size ≤ w.heap.size := by omega
  replace HB := Lib.hid (show Below w.heap.size w (((((w2.setCell ⟨w.heap.size, 0, none⟩ (.int .i64 k)).setCell ⟨w.heap.size, 1, none⟩ (.string x1)).setCell ⟨w.heap.size, 2, none⟩ (.string x2)).setCell ⟨w.heap.size, 3, none⟩ (.int .i64 a)).setCell ⟨w.heap.size, 4, none⟩ (.int .i64 b)) from below_set5 (R := w.heap.size) (v0 := .int .i64 k) (v1 := .string x1) (v2 := .string x2) (v3 := .int .i64 a) (v4 := .int .i64 b) HB.out hge)
  generalize hh2 : (((((w2.setCell ⟨w.heap.size, 0, none⟩ (.int .i64 k)).setCell ⟨w.heap.size, 1, none⟩ (.string x1)).setCell ⟨w.heap.size, 2, none⟩ (.string x2)).setCell ⟨w.heap.size, 3, none⟩ (.int .i64 a)).setCell ⟨w.heap.size, 4, none⟩ (.int .i64 b)) = v2 at *
  clear hh2
  clear hge
  refine (HH1.out _ (HE.out.below HB.out)).mono ?_
  rintro e w3 ⟨rfl, hb⟩
  replace cxf0 := (hb.frozen (World.block_lt_of_cell? _ _ cx0)).trans cxf0
  replace cx0 := (hb.cell (World.block_lt_of_cell? _ _ cx0)).trans cx0
  replace cxf1 := (hb.frozen (World.block_lt_of_cell? _ _ cx1)).trans cxf1
  replace cx1 := (hb.cell (World.block_lt_of_cell? _ _ cx1)).trans cx1
  replace cxf2 := (hb.frozen (World.block_lt_of_cell? _ _ cx2)).trans cxf2
  replace cx2 := (hb.cell (World.block_lt_of_cell? _ _ cx2)).trans cx2
  replace cxf3 := (hb.frozen (World.block_lt_of_cell? _ _ cx3)).trans cxf3
  replace cx3 := (hb.cell (World.block_lt_of_cell? _ _ cx3)).trans cx3
  replace cxf4 := (hb.frozen (World.block_lt_of_cell? _ _ cx4)).trans cxf4
  replace cx4 := (hb.cell (World.block_lt_of_cell? _ _ cx4)).trans cx4
  replace HB := Lib.hid (HB.out.trans (hb.mono HB.out.size))
  clear hb
  have hlca_cx := World.block_lt_of_cell? _ _ cx0
  replace cxf0 : (w3.alloc (.cells #[.int .i64 k, .string x1, .string ⟨#[]⟩, .int .i64 a, .int .i64 0] 23)).frozen? ⟨w.heap.size, 0, none⟩ = false := frozen_al cx0 cxf0
  replace cx0 : (w3.alloc (.cells #[.int .i64 k, .string x1, .string ⟨#[]⟩, .int .i64 a, .int .i64 0] 23)).cell? ⟨w.heap.size, 0, none⟩ = some (.int .i64 k) := cell_al cx0
  replace cxf1 : (w3.alloc (.cells #[.int .i64 k, .string x1, .string ⟨#[]⟩, .int .i64 a, .int .i64 0] 23)).frozen? ⟨w.heap.size, 1, none⟩ = false := frozen_al cx1 cxf1
  replace cx1 : (w3.alloc (.cells #[.int .i64 k, .string x1, .string ⟨#[]⟩, .int .i64 a, .int .i64 0] 23)).cell? ⟨w.heap.size, 1, none⟩ = some (.string x1) := cell_al cx1
  replace cxf2 : (w3.alloc (.cells #[.int .i64 k, .string x1, .string ⟨#[]⟩, .int .i64 a, .int .i64 0] 23)).frozen? ⟨w.heap.size, 2, none⟩ = false := frozen_al cx2 cxf2
  replace cx2 : (w3.alloc (.cells #[.int .i64 k, .string x1, .string ⟨#[]⟩, .int .i64 a, .int .i64 0] 23)).cell? ⟨w.heap.size, 2, none⟩ = some (.string x2) := cell_al cx2
  replace cxf3 : (w3.alloc (.cells #[.int .i64 k, .string x1, .string ⟨#[]⟩, .int .i64 a, .int .i64 0] 23)).frozen? ⟨w.heap.size, 3, none⟩ = false := frozen_al cx3 cxf3
  replace cx3 : (w3.alloc (.cells #[.int .i64 k, .string x1, .string ⟨#[]⟩, .int .i64 a, .int .i64 0] 23)).cell? ⟨w.heap.size, 3, none⟩ = some (.int .i64 a) := cell_al cx3
  replace cxf4 : (w3.alloc (.cells #[.int .i64 k, .string x1, .string ⟨#[]⟩, .int .i64 a, .int .i64 0] 23)).frozen? ⟨w.heap.size, 4, none⟩ = false := frozen_al cx4 cxf4
  replace cx4 : (w3.alloc (.cells #[.int .i64 k, .string x1, .string ⟨#[]⟩, .int .i64 a, .int .i64 0] 23)).cell? ⟨w.heap.size, 4, none⟩ = some (.int .i64 b) := cell_al cx4
  have ca0 : (w3.alloc (.cells #[.int .i64 k, .string x1, .string ⟨#[]⟩, .int .i64 a, .int .i64 0] 23)).cell? ⟨w3.heap.size, 0, none⟩ = some (.int .i64 k) := by go_simp
  have ca1 : (w3.alloc (.cells #[.int .i64 k, .string x1, .string ⟨#[]⟩, .int .i64 a, .int .i64 0] 23)).cell? ⟨w3.heap.size, 1, none⟩ = some (.string x1) := by go_simp
  have ca2 : (w3.alloc (.cells #[.int .i64 k, .string x1, .string ⟨#[]⟩, .int .i64 a, .int .i64 0] 23)).cell? ⟨w3.heap.size, 2, none⟩ = some (.string ⟨#[]⟩) := by go_simp
  have ca3 : (w3.alloc (.cells #[.int .i64 k, .string x1, .string ⟨#[]⟩, .int .i64 a, .int .i64 0] 23)).cell? ⟨w3.heap.size, 3, none⟩ = some (.int .i64 a) := by go_simp
  have ca4 : (w3.alloc (.cells #[.int .i64 k, .string x1, .string ⟨#[]⟩, .int .i64 a, .int .i64 0] 23)).cell? ⟨w3.heap.size, 4, none⟩ = some (.int .i64 0) := by go_simp
  go_wp2_with fail
  replace HB := Lib.hid (show Below w.heap.size w (w3.alloc (.cells #[.int .i64 k, .string x1, .string ⟨#[]⟩, .int .i64 a, .int .i64 0] 23)) from below_alloc_l (HB.out))
  generalize hh3 : (w3.alloc (.cells #[.int .i64 k, .string x1, .string ⟨#[]⟩, .int .i64 a, .int .i64 0] 23)) = v3 at *
  clear hh3
  refine (HH2.out _ (HE.out.below HB.out)).mono ?_
  rintro e w4 ⟨rfl, hb⟩
  replace cxf0 := (hb.frozen (World.block_lt_of_cell? _ _ cx0)).trans cxf0
  replace cx0 := (hb.cell (World.block_lt_of_cell? _ _ cx0)).trans cx0
  replace cxf1 := (hb.frozen (World.block_lt_of_cell? _ _ cx1)).trans cxf1
  replace cx1 := (hb.cell (World.block_lt_of_cell? _ _ cx1)).trans cx1
  replace cxf2 := (hb.frozen (World.block_lt_of_cell? _ _ cx2)).trans cxf2
  replace cx2 := (hb.cell (World.block_lt_of_cell? _ _ cx2)).trans cx2
  replace cxf3 := (hb.frozen (World.block_lt_of_cell? _ _ cx3)).trans cxf3
  replace cx3 := (hb.cell (World.block_lt_of_cell? _ _ cx3)).trans cx3
  replace cxf4 := (hb.frozen (World.block_lt_of_cell? _ _ cx4)).trans cxf4
  replace cx4 := (hb.cell (World.block_lt_of_cell? _ _ cx4)).trans cx4
  replace ca0 := (hb.cell (World.block_lt_of_cell? _ _ ca0)).trans ca0
  replace ca1 := (hb.cell (World.block_lt_of_cell? _ _ ca1)).trans ca1
  replace ca2 := (hb.cell (World.block_lt_of_cell? _ _ ca2)).trans ca2
  replace ca3 := (hb.cell (World.block_lt_of_cell? _ _ ca3)).trans ca3
  replace ca4 := (hb.cell (World.block_lt_of_cell? _ _ ca4)).trans ca4
  replace HB := Lib.hid (HB.out.trans (hb.mono HB.out.size))
  clear hb
  have hlb_cx := World.block_lt_of_cell? _ _ cx0
  have hlb_ca := World.block_lt_of_cell? _ _ ca0
  have lvcx0 : (w4.alloc (.cells #[.int .i64 k, .string x1, .string ⟨#[]⟩, .int .i64 a, .int .i64 0] 23)).cell? ⟨w.heap.size, 0, none⟩ = some (.int .i64 k) := cell_al cx0
  have lvcx1 : (w4.alloc (.cells #[.int .i64 k, .string x1, .string ⟨#[]⟩, .int .i64 a, .int .i64 0] 23)).cell? ⟨w.heap.size, 1, none⟩ = some (.string x1) := cell_al cx1
  have lvcx2 : (w4.alloc (.cells #[.int .i64 k, .string x1, .string ⟨#[]⟩, .int .i64 a, .int .i64 0] 23)).cell? ⟨w.heap.size, 2, none⟩ = some (.string x2) := cell_al cx2
  have lvcx3 : (w4.alloc (.cells #[.int .i64 k, .string x1, .string ⟨#[]⟩, .int .i64 a, .int .i64 0] 23)).cell? ⟨w.heap.size, 3, none⟩ = some (.int .i64 a) := cell_al cx3
  have lvcx4 : (w4.alloc (.cells #[.int .i64 k, .string x1, .string ⟨#[]⟩, .int .i64 a, .int .i64 0] 23)).cell? ⟨w.heap.size, 4, none⟩ = some (.int .i64 b) := cell_al cx4
  have lvca0 : (w4.alloc (.cells #[.int .i64 k, .string x1, .string ⟨#[]⟩, .int .i64 a, .int .i64 0] 23)).cell? ⟨w3.heap.size, 0, none⟩ = some (.int .i64 k) := cell_al ca0
  have lvca1 : (w4.alloc (.cells #[.int .i64 k, .string x1, .string ⟨#[]⟩, .int .i64 a, .int .i64 0] 23)).cell? ⟨w3.heap.size, 1, none⟩ = some (.string x1) := cell_al ca1
  have lvca2 : (w4.alloc (.cells #[.int .i64 k, .string x1, .string ⟨#[]⟩, .int .i64 a, .int .i64 0] 23)).cell? ⟨w3.heap.size, 2, none⟩ = some (.string ⟨#[]⟩) := cell_al ca2
  have lvca3 : (w4.alloc (.cells #[.int .i64 k, .string x1, .string ⟨#[]⟩, .int .i64 a, .int .i64 0] 23)).cell? ⟨w3.heap.size, 3, none⟩ = some (.int .i64 a) := cell_al ca3
  have lvca4 : (w4.alloc (.cells #[.int .i64 k, .string x1, .string ⟨#[]⟩, .int .i64 a, .int .i64 0] 23)).cell? ⟨w3.heap.size, 4, none⟩ = some (.int .i64 0) := cell_al ca4
  go_wp2_with fail
  replace cx0 : ((w4.alloc (.cells #[.int .i64 k, .string x1, .string ⟨#[]⟩, .int .i64 a, .int .i64 0] 23)).alloc (.cells #[.int .i64 k, .string x1, .string x2, .int .i64 a, .int .i64 b] 23)).cell? ⟨w.heap.size, 0, none⟩ = some (.int .i64 k) := cell_al lvcx0
  clear cxf0
  replace cx1 : ((w4.alloc (.cells #[.int .i64 k, .string x1, .string ⟨#[]⟩, .int .i64 a, .int .i64 0] 23)).alloc (.cells #[.int .i64 k, .string x1, .string x2, .int .i64 a, .int .i64 b] 23)).cell? ⟨w.heap.size, 1, none⟩ = some (.string x1) := cell_al lvcx1
  clear cxf1
  replace cx2 : ((w4.alloc (.cells #[.int .i64 k, .string x1, .string ⟨#[]⟩, .int .i64 a, .int .i64 0] 23)).alloc (.cells #[.int .i64 k, .string x1, .string x2, .int .i64 a, .int .i64 b] 23)).cell? ⟨w.heap.size, 2, none⟩ = some (.string x2) := cell_al lvcx2
  clear cxf2
  replace cx3 : ((w4.alloc (.cells #[.int .i64 k, .string x1, .string ⟨#[]⟩, .int .i64 a, .int .i64 0] 23)).alloc (.cells #[.int .i64 k, .string x1, .string x2, .int .i64 a, .int .i64 b] 23)).cell? ⟨w.heap.size, 3, none⟩ = some (.int .i64 a) := cell_al lvcx3
  clear cxf3
  replace cx4 : ((w4.alloc (.cells #[.int .i64 k, .string x1, .string ⟨#[]⟩, .int .i64 a, .int .i64 0] 23)).alloc (.cells #[.int .i64 k, .string x1, .string x2, .int .i64 a, .int .i64 b] 23)).cell? ⟨w.heap.size, 4, none⟩ = some (.int .i64 b) := cell_al lvcx4
  clear cxf4
  replace ca0 : ((w4.alloc (.cells #[.int .i64 k, .string x1, .string ⟨#[]⟩, .int .i64 a, .int .i64 0] 23)).alloc (.cells #[.int .i64 k, .string x1, .string x2, .int .i64 a, .int .i64 b] 23)).cell? ⟨w3.heap.size, 0, none⟩ = some (.int .i64 k) := cell_al lvca0
  replace ca1 : ((w4.alloc (.cells #[.int .i64 k, .string x1, .string ⟨#[]⟩, .int .i64 a, .int .i64 0] 23)).alloc (.cells #[.int .i64 k, .string x1, .string x2, .int .i64 a, .int .i64 b] 23)).cell? ⟨w3.heap.size, 1, none⟩ = some (.string x1) := cell_al lvca1
  replace ca2 : ((w4.alloc (.cells #[.int .i64 k, .string x1, .string ⟨#[]⟩, .int .i64 a, .int .i64 0] 23)).alloc (.cells #[.int .i64 k, .string x1, .string x2, .int .i64 a, .int .i64 b] 23)).cell? ⟨w3.heap.size, 2, none⟩ = some (.string ⟨#[]⟩) := cell_al lvca2
  replace ca3 : ((w4.alloc (.cells #[.int .i64 k, .string x1, .string ⟨#[]⟩, .int .i64 a, .int .i64 0] 23)).alloc (.cells #[.int .i64 k, .string x1, .string x2, .int .i64 a, .int .i64 b] 23)).cell? ⟨w3.heap.size, 3, none⟩ = some (.int .i64 a) := cell_al lvca3
  replace ca4 : ((w4.alloc (.cells #[.int .i64 k, .string x1, .string ⟨#[]⟩, .int .i64 a, .int .i64 0] 23)).alloc (.cells #[.int .i64 k, .string x1, .string x2, .int .i64 a, .int .i64 b] 23)).cell? ⟨w3.heap.size, 4, none⟩ = some (.int .i64 0) := cell_al lvca4
  have cb0 : ((w4.alloc (.cells #[.int .i64 k, .string x1, .string ⟨#[]⟩, .int .i64 a, .int .i64 0] 23)).alloc (.cells #[.int .i64 k, .string x1, .string x2, .int .i64 a, .int .i64 b] 23)).cell? ⟨w4.heap.size, 0, none⟩ = some (.int .i64 k) := by go_simp
  have cb1 : ((w4.alloc (.cells #[.int .i64 k, .string x1, .string ⟨#[]⟩, .int .i64 a, .int .i64 0] 23)).alloc (.cells #[.int .i64 k, .string x1, .string x2, .int .i64 a, .int .i64 b] 23)).cell? ⟨w4.heap.size, 1, none⟩ = some (.string x1) := by go_simp
  have cb2 : ((w4.alloc (.cells #[.int .i64 k, .string x1, .string ⟨#[]⟩, .int .i64 a, .int .i64 0] 23)).alloc (.cells #[.int .i64 k, .string x1, .string x2, .int .i64 a, .int .i64 b] 23)).cell? ⟨w4.heap.size, 2, none⟩ = some (.string ⟨#[]⟩) := by go_simp
  have cb3 : ((w4.alloc (.cells #[.int .i64 k, .string x1, .string ⟨#[]⟩, .int .i64 a, .int .i64 0] 23)).alloc (.cells #[.int .i64 k, .string x1, .string x2, .int .i64 a, .int .i64 b] 23)).cell? ⟨w4.heap.size, 3, none⟩ = some (.int .i64 a) := by go_simp
  have cb4 : ((w4.alloc (.cells #[.int .i64 k, .string x1, .string ⟨#[]⟩, .int .i64 a, .int .i64 0] 23)).alloc (.cells #[.int .i64 k, .string x1, .string x2, .int .i64 a, .int .i64 b] 23)).cell? ⟨w4.heap.size, 4, none⟩ = some (.int .i64 0) := by go_simp
  clear lvcx0 lvcx1 lvcx2 lvcx3 lvcx4 lvca0 lvca1 lvca2 lvca3 lvca4
  replace HB := Lib.hid (show Below w.heap.size w ((w4.alloc (.cells #[.int .i64 k, .string x1, .string ⟨#[]⟩, .int .i64 a, .int .i64 0] 23)).alloc (.cells #[.int .i64 k, .string x1, .string x2, .int .i64 a, .int .i64 b] 23)) from below_alloc_l (below_alloc_l HB.out))
  generalize hh4 : ((w4.alloc (.cells #[.int .i64 k, .string x1, .string ⟨#[]⟩, .int .i64 a, .int .i64 0] 23)).alloc (.cells #[.int .i64 k, .string x1, .string x2, .int .i64 a, .int .i64 b] 23)) = v4 at *
  clear hh4
  refine (HH3.out _ (HE.out.below HB.out)).mono ?_
  rintro e w5 ⟨rfl, hb⟩
  replace cx0 := (hb.cell (World.block_lt_of_cell? _ _ cx0)).trans cx0
  replace cx1 := (hb.cell (World.block_lt_of_cell? _ _ cx1)).trans cx1
  replace cx2 := (hb.cell (World.block_lt_of_cell? _ _ cx2)).trans cx2
  replace cx3 := (hb.cell (World.block_lt_of_cell? _ _ cx3)).trans cx3
  replace cx4 := (hb.cell (World.block_lt_of_cell? _ _ cx4)).trans cx4
  replace ca0 := (hb.cell (World.block_lt_of_cell? _ _ ca0)).trans ca0
  replace ca1 := (hb.cell (World.block_lt_of_cell? _ _ ca1)).trans ca1
  replace ca2 := (hb.cell (World.block_lt_of_cell? _ _ ca2)).trans ca2
  replace ca3 := (hb.cell (World.block_lt_of_cell? _ _ ca3)).trans ca3
  replace ca4 := (hb.cell (World.block_lt_of_cell? _ _ ca4)).trans ca4
  replace cb0 := (hb.cell (World.block_lt_of_cell? _ _ cb0)).trans cb0
  replace cb1 := (hb.cell (World.block_lt_of_cell? _ _ cb1)).trans cb1
  replace cb2 := (hb.cell (World.block_lt_of_cell? _ _ cb2)).trans cb2
  replace cb3 := (hb.cell (World.block_lt_of_cell? _ _ cb3)).trans cb3
  replace cb4 := (hb.cell (World.block_lt_of_cell? _ _ cb4)).trans cb4
  replace HB := Lib.hid (HB.out.trans (hb.mono HB.out.size))
  clear hb
  clear HH1 HH2 HH3 HCUT
  rcases ho with hn | ⟨hn, rfl, rfl, rfl, rfl, rfl⟩
  · have hlz_cx := World.block_lt_of_cell? _ _ cx0
    replace cx0 : (w5.alloc (.cells #[.int .i64 c0, .string c1, .string c2, .int .i64 c3, .int .i64 c4] 23)).cell? ⟨w.heap.size, 0, none⟩ = some (.int .i64 k) := cell_al cx0
    replace cx1 : (w5.alloc (.cells #[.int .i64 c0, .string c1, .string c2, .int .i64 c3, .int .i64 c4] 23)).cell? ⟨w.heap.size, 1, none⟩ = some (.string x1) := cell_al cx1
    replace cx2 : (w5.alloc (.cells #[.int .i64 c0, .string c1, .string c2, .int .i64 c3, .int .i64 c4] 23)).cell? ⟨w.heap.size, 2, none⟩ = some (.string x2) := cell_al cx2
    replace cx3 : (w5.alloc (.cells #[.int .i64 c0, .string c1, .string c2, .int .i64 c3, .int .i64 c4] 23)).cell? ⟨w.heap.size, 3, none⟩ = some (.int .i64 a) := cell_al cx3
    replace cx4 : (w5.alloc (.cells #[.int .i64 c0, .string c1, .string c2, .int .i64 c3, .int .i64 c4] 23)).cell? ⟨w.heap.size, 4, none⟩ = some (.int .i64 b) := cell_al cx4
    have hlz_ca := World.block_lt_of_cell? _ _ ca0
    replace ca0 : (w5.alloc (.cells #[.int .i64 c0, .string c1, .string c2, .int .i64 c3, .int .i64 c4] 23)).cell? ⟨w3.heap.size, 0, none⟩ = some (.int .i64 k) := cell_al ca0
    replace ca1 : (w5.alloc (.cells #[.int .i64 c0, .string c1, .string c2, .int .i64 c3, .int .i64 c4] 23)).cell? ⟨w3.heap.size, 1, none⟩ = some (.string x1) := cell_al ca1
    replace ca2 : (w5.alloc (.cells #[.int .i64 c0, .string c1, .string c2, .int .i64 c3, .int .i64 c4] 23)).cell? ⟨w3.heap.size, 2, none⟩ = some (.string ⟨#[]⟩) := cell_al ca2
    replace ca3 : (w5.alloc (.cells #[.int .i64 c0, .string c1, .string c2, .int .i64 c3, .int .i64 c4] 23)).cell? ⟨w3.heap.size, 3, none⟩ = some (.int .i64 a) := cell_al ca3
    replace ca4 : (w5.alloc (.cells #[.int .i64 c0, .string c1, .string c2, .int .i64 c3, .int .i64 c4] 23)).cell? ⟨w3.heap.size, 4, none⟩ = some (.int .i64 0) := cell_al ca4
    have hlz_cb := World.block_lt_of_cell? _ _ cb0
    replace cb0 : (w5.alloc (.cells #[.int .i64 c0, .string c1, .string c2, .int .i64 c3, .int .i64 c4] 23)).cell? ⟨w4.heap.size, 0, none⟩ = some (.int .i64 k) := cell_al cb0
    replace cb1 : (w5.alloc (.cells #[.int .i64 c0, .string c1, .string c2, .int .i64 c3, .int .i64 c4] 23)).cell? ⟨w4.heap.size, 1, none⟩ = some (.string x1) := cell_al cb1
    replace cb2 : (w5.alloc (.cells #[.int .i64 c0, .string c1, .string c2, .int .i64 c3, .int .i64 c4] 23)).cell? ⟨w4.heap.size, 2, none⟩ = some (.string ⟨#[]⟩) := cell_al cb2
    replace cb3 : (w5.alloc (.cells #[.int .i64 c0, .string c1, .string c2, .int .i64 c3, .int .i64 c4] 23)).cell? ⟨w4.heap.size, 3, none⟩ = some (.int .i64 a) := cell_al cb3
    replace cb4 : (w5.alloc (.cells #[.int .i64 c0, .string c1, .string c2, .int .i64 c3, .int .i64 c4] 23)).cell? ⟨w4.heap.size, 4, none⟩ = some (.int .i64 0) := cell_al cb4
    replace HB := Lib.hid (show Below w.heap.size w (w5.alloc (.cells #[.int .i64 c0, .string c1, .string c2, .int .i64 c3, .int .i64 c4] 23)) from below_alloc_l HB.out)
    go_wp2_with fail
    generalize hhz : (w5.alloc (.cells #[.int .i64 c0, .string c1, .string c2, .int .i64 c3, .int .i64 c4] 23)) = vz at *
    clear hhz
    refine (HR.out _ (HE.out.below HB.out)).mono ?_
    rintro e wz ⟨rfl, hb⟩
    replace cx0 := (hb.cell (World.block_lt_of_cell? _ _ cx0)).trans cx0
    replace cx1 := (hb.cell (World.block_lt_of_cell? _ _ cx1)).trans cx1
    replace cx2 := (hb.cell (World.block_lt_of_cell? _ _ cx2)).trans cx2
    replace cx3 := (hb.cell (World.block_lt_of_cell? _ _ cx3)).trans cx3
    replace cx4 := (hb.cell (World.block_lt_of_cell? _ _ cx4)).trans cx4
    replace ca0 := (hb.cell (World.block_lt_of_cell? _ _ ca0)).trans ca0
    replace ca1 := (hb.cell (World.block_lt_of_cell? _ _ ca1)).trans ca1
    replace ca2 := (hb.cell (World.block_lt_of_cell? _ _ ca2)).trans ca2
    replace ca3 := (hb.cell (World.block_lt_of_cell? _ _ ca3)).trans ca3
    replace ca4 := (hb.cell (World.block_lt_of_cell? _ _ ca4)).trans ca4
    replace cb0 := (hb.cell (World.block_lt_of_cell? _ _ cb0)).trans cb0
    replace cb1 := (hb.cell (World.block_lt_of_cell? _ _ cb1)).trans cb1
    replace cb2 := (hb.cell (World.block_lt_of_cell? _ _ cb2)).trans cb2
    replace cb3 := (hb.cell (World.block_lt_of_cell? _ _ cb3)).trans cb3
    replace cb4 := (hb.cell (World.block_lt_of_cell? _ _ cb4)).trans cb4
    replace HB := Lib.hid (HB.out.trans (hb.mono HB.out.size))
    clear hb
    go_wp2_with fail
    go_ret
    exact ⟨rfl, HB.out⟩
  · have hlz_cx := World.block_lt_of_cell? _ _ cx0
    replace cx0 : (w5.alloc (.cells #[.int .i64 k, .string x1, .string ⟨#[]⟩, .int .i64 a, .int .i64 0] 23)).cell? ⟨w.heap.size, 0, none⟩ = some (.int .i64 k) := cell_al cx0
    replace cx1 : (w5.alloc (.cells #[.int .i64 k, .string x1, .string ⟨#[]⟩, .int .i64 a, .int .i64 0] 23)).cell? ⟨w.heap.size, 1, none⟩ = some (.string x1) := cell_al cx1
    replace cx2 : (w5.alloc (.cells #[.int .i64 k, .string x1, .string ⟨#[]⟩, .int .i64 a, .int .i64 0] 23)).cell? ⟨w.heap.size, 2, none⟩ = some (.string x2) := cell_al cx2
    replace cx3 : (w5.alloc (.cells #[.int .i64 k, .string x1, .string ⟨#[]⟩, .int .i64 a, .int .i64 0] 23)).cell? ⟨w.heap.size, 3, none⟩ = some (.int .i64 a) := cell_al cx3
    replace cx4 : (w5.alloc (.cells #[.int .i64 k, .string x1, .string ⟨#[]⟩, .int .i64 a, .int .i64 0] 23)).cell? ⟨w.heap.size, 4, none⟩ = some (.int .i64 b) := cell_al cx4
    have hlz_ca := World.block_lt_of_cell? _ _ ca0
    replace ca0 : (w5.alloc (.cells #[.int .i64 k, .string x1, .string ⟨#[]⟩, .int .i64 a, .int .i64 0] 23)).cell? ⟨w3.heap.size, 0, none⟩ = some (.int .i64 k) := cell_al ca0
    replace ca1 : (w5.alloc (.cells #[.int .i64 k, .string x1, .string ⟨#[]⟩, .int .i64 a, .int .i64 0] 23)).cell? ⟨w3.heap.size, 1, none⟩ = some (.string x1) := cell_al ca1
    replace ca2 : (w5.alloc (.cells #[.int .i64 k, .string x1, .string ⟨#[]⟩, .int .i64 a, .int .i64 0] 23)).cell? ⟨w3.heap.size, 2, none⟩ = some (.string ⟨#[]⟩) := cell_al ca2
    replace ca3 : (w5.alloc (.cells #[.int .i64 k, .string x1, .string ⟨#[]⟩, .int .i64 a, .int .i64 0] 23)).cell? ⟨w3.heap.size, 3, none⟩ = some (.int .i64 a) := cell_al ca3
    replace ca4 : (w5.alloc (.cells #[.int .i64 k, .string x1, .string ⟨#[]⟩, .int .i64 a, .int .i64 0] 23)).cell? ⟨w3.heap.size, 4, none⟩ = some (.int .i64 0) := cell_al ca4
    have hlz_cb := World.block_lt_of_cell? _ _ cb0
    replace cb0 : (w5.alloc (.cells #[.int .i64 k, .string x1, .string ⟨#[]⟩, .int .i64 a, .int .i64 0] 23)).cell? ⟨w4.heap.size, 0, none⟩ = some (.int .i64 k) := cell_al cb0
    replace cb1 : (w5.alloc (.cells #[.int .i64 k, .string x1, .string ⟨#[]⟩, .int .i64 a, .int .i64 0] 23)).cell? ⟨w4.heap.size, 1, none⟩ = some (.string x1) := cell_al cb1
    replace cb2 : (w5.alloc (.cells #[.int .i64 k, .string x1, .string ⟨#[]⟩, .int .i64 a, .int .i64 0] 23)).cell? ⟨w4.heap.size, 2, none⟩ = some (.string ⟨#[]⟩) := cell_al cb2
    replace cb3 : (w5.alloc (.cells #[.int .i64 k, .string x1, .string ⟨#[]⟩, .int .i64 a, .int .i64 0] 23)).cell? ⟨w4.heap.size, 3, none⟩ = some (.int .i64 a) := cell_al cb3
    replace cb4 : (w5.alloc (.cells #[.int .i64 k, .string x1, .string ⟨#[]⟩, .int .i64 a, .int .i64 0] 23)).cell? ⟨w4.heap.size, 4, none⟩ = some (.int .i64 0) := cell_al cb4
    have cc0 : (w5.alloc (.cells #[.int .i64 k, .string x1, .string ⟨#[]⟩, .int .i64 a, .int .i64 0] 23)).cell? ⟨w5.heap.size, 0, none⟩ = some (.int .i64 k) := by go_simp
    have cc1 : (w5.alloc (.cells #[.int .i64 k, .string x1, .string ⟨#[]⟩, .int .i64 a, .int .i64 0] 23)).cell? ⟨w5.heap.size, 1, none⟩ = some (.string x1) := by go_simp
    have cc2 : (w5.alloc (.cells #[.int .i64 k, .string x1, .string ⟨#[]⟩, .int .i64 a, .int .i64 0] 23)).cell? ⟨w5.heap.size, 2, none⟩ = some (.string ⟨#[]⟩) := by go_simp
    have cc3 : (w5.alloc (.cells #[.int .i64 k, .string x1, .string ⟨#[]⟩, .int .i64 a, .int .i64 0] 23)).cell? ⟨w5.heap.size, 3, none⟩ = some (.int .i64 a) := by go_simp
    have cc4 : (w5.alloc (.cells #[.int .i64 k, .string x1, .string ⟨#[]⟩, .int .i64 a, .int .i64 0] 23)).cell? ⟨w5.heap.size, 4, none⟩ = some (.int .i64 0) := by go_simp
    replace HB := Lib.hid (show Below w.heap.size w (w5.alloc (.cells #[.int .i64 k, .string x1, .string ⟨#[]⟩, .int .i64 a, .int .i64 0] 23)) from below_alloc_l HB.out)
    go_wp2_with fail
    generalize hhz : (w5.alloc (.cells #[.int .i64 k, .string x1, .string ⟨#[]⟩, .int .i64 a, .int .i64 0] 23)) = vz at *
    clear hhz
    refine (HR.out _ (HE.out.below HB.out)).mono ?_
    rintro e wz ⟨rfl, hb⟩
    replace cx0 := (hb.cell (World.block_lt_of_cell? _ _ cx0)).trans cx0
    replace cx1 := (hb.cell (World.block_lt_of_cell? _ _ cx1)).trans cx1
    replace cx2 := (hb.cell (World.block_lt_of_cell? _ _ cx2)).trans cx2
    replace cx3 := (hb.cell (World.block_lt_of_cell? _ _ cx3)).trans cx3
    replace cx4 := (hb.cell (World.block_lt_of_cell? _ _ cx4)).trans cx4
    replace ca0 := (hb.cell (World.block_lt_of_cell? _ _ ca0)).trans ca0
    replace ca1 := (hb.cell (World.block_lt_of_cell? _ _ ca1)).trans ca1
    replace ca2 := (hb.cell (World.block_lt_of_cell? _ _ ca2)).trans ca2
    replace ca3 := (hb.cell (World.block_lt_of_cell? _ _ ca3)).trans ca3
    replace ca4 := (hb.cell (World.block_lt_of_cell? _ _ ca4)).trans ca4
    replace cb0 := (hb.cell (World.block_lt_of_cell? _ _ cb0)).trans cb0
    replace cb1 := (hb.cell (World.block_lt_of_cell? _ _ cb1)).trans cb1
    replace cb2 := (hb.cell (World.block_lt_of_cell? _ _ cb2)).trans cb2
    replace cb3 := (hb.cell (World.block_lt_of_cell? _ _ cb3)).trans cb3
    replace cb4 := (hb.cell (World.block_lt_of_cell? _ _ cb4)).trans cb4
    replace cc0 := (hb.cell (World.block_lt_of_cell? _ _ cc0)).trans cc0
    replace cc1 := (hb.cell (World.block_lt_of_cell? _ _ cc1)).trans cc1
    replace cc2 := (hb.cell (World.block_lt_of_cell? _ _ cc2)).trans cc2
    replace cc3 := (hb.cell (World.block_lt_of_cell? _ _ cc3)).trans cc3
    replace cc4 := (hb.cell (World.block_lt_of_cell? _ _ cc4)).trans cc4
    replace HB := Lib.hid (HB.out.trans (hb.mono HB.out.size))
    clear hb
    go_wp2_with fail
    go_ret
    exact ⟨rfl, HB.out⟩
end Go.Proofs.YtmpokhdljlnllaaDoor
