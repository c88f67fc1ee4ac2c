/- The walk of EidBack, by its ways. -/
import Derived.Test.YtmpokhdljlnllaaDoorEHomesW
set_option linter.unusedVariables false
set_option linter.unusedSimpArgs false
namespace Go.Proofs.YtmpokhdljlnllaaDoor
open Go.RowKit


set_option maxRecDepth 100000 in
set_option maxHeartbeats 4000000 in
theorem back_00 (k a b pk pa pb : Int) (nd sv x1 x2 s sc s1 t1 u y1 pn ps tw : ByteArray) (w : World) (HE : Hid (EnvN w))
    (HCUT : Hid (∀ W, Calls Tryd.prog 9 #[.agg #[.int .i64 k, .string nd, .string sv, .int .i64 a, .int .i64 b]] W fun e w' => e = .returned (.agg #[.int .i64 k, .string x1, .string x2, .int .i64 a, .int .i64 b]) ∧ Below W.heap.size W w'))
    (HLC : Hid (∀ W, Calls Tryd.prog 10 #[.string s] W fun e w' => e = .returned (.string sc) ∧ W = w'))
    (HPR : Hid (∀ W, EnvN W → Calls Tryd.prog 15 #[.agg #[.int .i64 k, .string x1, .string x2, .int .i64 a, .int .i64 b]] W fun e w' => e = .returned (.tuple #[.string ⟨#[]⟩, .int .i64 60]) ∧ Below W.heap.size W w'))
    (HHV : Hid (∀ W, EnvN W → Calls Tryd.prog 11 #[.agg #[.int .i64 k, .string x1, .string x2, .int .i64 a, .int .i64 b]] W fun e w' => e = .returned (.tuple #[.string ⟨#[]⟩, .string ⟨#[]⟩, .int .i64 60]) ∧ Below W.heap.size W w'))
    (HPT : Hid (∀ W, EnvN W → Calls Tryd.prog 17 #[.string ⟨#[]⟩] W fun e w' => e = .returned (.tuple #[.agg #[.int .i64 0, .string ⟨#[]⟩, .string ⟨#[]⟩, .int .i64 0, .int .i64 0], .int .i64 60]) ∧ Below W.heap.size W w'))
    (HJN : Hid (∀ W, EnvN W → Calls Tryd.prog 13 #[.string ⟨#[]⟩, .string ⟨#[]⟩] W fun e w' => e = .returned (.tuple #[.agg #[.int .i64 0, .string ⟨#[]⟩, .string ⟨#[]⟩, .int .i64 0, .int .i64 0], .int .i64 60]) ∧ Below W.heap.size W w'))
    (HPS : Hid (∀ W, EnvN W → Calls Tryd.prog 17 #[.string sc] W fun e w' => e = .returned (.tuple #[.agg #[.int .i64 0, .string ⟨#[]⟩, .string ⟨#[]⟩, .int .i64 0, .int .i64 0], .int .i64 60]) ∧ Below W.heap.size W w'))
    (HPW : Hid (∀ W, EnvN W → Calls Tryd.prog 15 #[.agg #[.int .i64 0, .string ⟨#[]⟩, .string ⟨#[]⟩, .int .i64 0, .int .i64 0]] W fun e w' => e = .returned (.tuple #[.string tw, .int .i64 0]) ∧ Below W.heap.size W w'))
    (HR : Hid (∀ W, EnvN W → Calls Tryd.prog 21 #[.agg #[.int .i64 k, .string x1, .string x2, .int .i64 a, .int .i64 b]] W fun e w' => e = .returned (.bool false) ∧ Below W.heap.size W w'))
   :
    Calls Tryd.prog 4 #[.agg #[.int .i64 k, .string nd, .string sv, .int .i64 a, .int .i64 b], .string s] w fun e w' => e = .returned (.bool true) ∧ Below w.heap.size w w' := by
  have e1 : ∀ W : World, (binOp .neq 23 (.agg #[.int .i64 k, .string x1, .string x2, .int .i64 a, .int .i64 b]) (.agg #[.int .i64 k, .string x1, .string x2, .int .i64 a, .int .i64 b])).run Tryd.prog W = .ok (.bool false) W := fun W => by rw [nm_neq, nmE_iff.2 ⟨rfl, rfl, rfl, rfl, rfl⟩]; rfl
  have e3 : ∀ W : World, (binOp .eql 23 (.agg #[.int .i64 0, .string ⟨#[]⟩, .string ⟨#[]⟩, .int .i64 0, .int .i64 0]) (.agg #[.int .i64 0, .string ⟨#[]⟩, .string ⟨#[]⟩, .int .i64 0, .int .i64 0])).run Tryd.prog W = .ok (.bool true) W := fun W => by rw [nm_eql, nmE_iff.2 ⟨rfl, rfl, rfl, rfl, rfl⟩]
  go_enter Tryd.func4, Tryd.ntmps4
  go_wp2_with fail
  have cx0 : (w.alloc (.cells #[.int .i64 k, .string nd, .string sv, .int .i64 a, .int .i64 b] 23)).cell? ⟨w.heap.size, 0, none⟩ = some (.int .i64 k) := by go_simp
  have cxf0 : (w.alloc (.cells #[.int .i64 k, .string nd, .string sv, .int .i64 a, .int .i64 b] 23)).frozen? ⟨w.heap.size, 0, none⟩ = false := by go_simp
  have cx1 : (w.alloc (.cells #[.int .i64 k, .string nd, .string sv, .int .i64 a, .int .i64 b] 23)).cell? ⟨w.heap.size, 1, none⟩ = some (.string nd) := by go_simp
  have cxf1 : (w.alloc (.cells #[.int .i64 k, .string nd, .string sv, .int .i64 a, .int .i64 b] 23)).frozen? ⟨w.heap.size, 1, none⟩ = false := by go_simp
  have cx2 : (w.alloc (.cells #[.int .i64 k, .string nd, .string sv, .int .i64 a, .int .i64 b] 23)).cell? ⟨w.heap.size, 2, none⟩ = some (.string sv) := by go_simp
  have cxf2 : (w.alloc (.cells #[.int .i64 k, .string nd, .string sv, .int .i64 a, .int .i64 b] 23)).frozen? ⟨w.heap.size, 2, none⟩ = false := by go_simp
  have cx3 : (w.alloc (.cells #[.int .i64 k, .string nd, .string sv, .int .i64 a, .int .i64 b] 23)).cell? ⟨w.heap.size, 3, none⟩ = some (.int .i64 a) := by go_simp
  have cxf3 : (w.alloc (.cells #[.int .i64 k, .string nd, .string sv, .int .i64 a, .int .i64 b] 23)).frozen? ⟨w.heap.size, 3, none⟩ = false := by go_simp
  have cx4 : (w.alloc (.cells #[.int .i64 k, .string nd, .string sv, .int .i64 a, .int .i64 b] 23)).cell? ⟨w.heap.size, 4, none⟩ = some (.int .i64 b) := by go_simp
  have cxf4 : (w.alloc (.cells #[.int .i64 k, .string nd, .string sv, .int .i64 a, .int .i64 b] 23)).frozen? ⟨w.heap.size, 4, none⟩ = false := by go_simp
  have HB := Lib.hid (show Below w.heap.size w (w.alloc (.cells #[.int .i64 k, .string nd, .string sv, .int .i64 a, .int .i64 b] 23)) from below_alloc_l (Below.refl _ _))
  generalize hh1 : (w.alloc (.cells #[.int .i64 k, .string nd, .string sv, .int .i64 a, .int .i64 b] 23)) = v1 at *
  clear hh1
  refine (shown_any _ (HE.out.below HB.out)).mono ?_
  rintro e w1 ⟨rfl, hb⟩
  replace cxf0 := (hb.frozen (World.block_lt_of_cell? _ _ cx0)).trans cxf0
  replace cx0 := (hb.cell (World.block_lt_of_cell? _ _ cx0)).trans cx0
  replace cxf1 := (hb.frozen (World.block_lt_of_cell? _ _ cx1)).trans cxf1
  replace cx1 := (hb.cell (World.block_lt_of_cell? _ _ cx1)).trans cx1
  replace cxf2 := (hb.frozen (World.block_lt_of_cell? _ _ cx2)).trans cxf2
  replace cx2 := (hb.cell (World.block_lt_of_cell? _ _ cx2)).trans cx2
  replace cxf3 := (hb.frozen (World.block_lt_of_cell? _ _ cx3)).trans cxf3
  replace cx3 := (hb.cell (World.block_lt_of_cell? _ _ cx3)).trans cx3
  replace cxf4 := (hb.frozen (World.block_lt_of_cell? _ _ cx4)).trans cxf4
  replace cx4 := (hb.cell (World.block_lt_of_cell? _ _ cx4)).trans cx4
  replace HB := Lib.hid (HB.out.trans (hb.mono HB.out.size))
  clear hb
  go_wp2_with fail
  refine (HCUT.out _).mono ?_
  rintro e w2 ⟨rfl, hb⟩
  replace cxf0 := (hb.frozen (World.block_lt_of_cell? _ _ cx0)).trans cxf0
  replace cx0 := (hb.cell (World.block_lt_of_cell? _ _ cx0)).trans cx0
  replace cxf1 := (hb.frozen (World.block_lt_of_cell? _ _ cx1)).trans cxf1
  replace cx1 := (hb.cell (World.block_lt_of_cell? _ _ cx1)).trans cx1
  replace cxf2 := (hb.frozen (World.block_lt_of_cell? _ _ cx2)).trans cxf2
  replace cx2 := (hb.cell (World.block_lt_of_cell? _ _ cx2)).trans cx2
  replace cxf3 := (hb.frozen (World.block_lt_of_cell? _ _ cx3)).trans cxf3
  replace cx3 := (hb.cell (World.block_lt_of_cell? _ _ cx3)).trans cx3
  replace cxf4 := (hb.frozen (World.block_lt_of_cell? _ _ cx4)).trans cxf4
  replace cx4 := (hb.cell (World.block_lt_of_cell? _ _ cx4)).trans cx4
  replace HB := Lib.hid (HB.out.trans (hb.mono HB.out.size))
  clear hb
  go_wp2_with fail
  have k5 := set5 (v0 := .int .i64 k) (v1 := .string x1) (v2 := .string x2) (v3 := .int .i64 a) (v4 := .int .i64 b) cx0 cx1 cx2 cx3 cx4
  replace cxf0 : (((((w2.setCell ⟨w.heap.size, 0, none⟩ (.int .i64 k)).setCell ⟨w.heap.size, 1, none⟩ (.string x1)).setCell ⟨w.heap.size, 2, none⟩ (.string x2)).setCell ⟨w.heap.size, 3, none⟩ (.int .i64 a)).setCell ⟨w.heap.size, 4, none⟩ (.int .i64 b)).frozen? ⟨w.heap.size, 0, none⟩ = false := frozen_set5 cxf0
  replace cxf1 : (((((w2.setCell ⟨w.heap.size, 0, none⟩ (.int .i64 k)).setCell ⟨w.heap.size, 1, none⟩ (.string x1)).setCell ⟨w.heap.size, 2, none⟩ (.string x2)).setCell ⟨w.heap.size, 3, none⟩ (.int .i64 a)).setCell ⟨w.heap.size, 4, none⟩ (.int .i64 b)).frozen? ⟨w.heap.size, 1, none⟩ = false := frozen_set5 cxf1
  replace cxf2 : (((((w2.setCell ⟨w.heap.size, 0, none⟩ (.int .i64 k)).setCell ⟨w.heap.size, 1, none⟩ (.string x1)).setCell ⟨w.heap.size, 2, none⟩ (.string x2)).setCell ⟨w.heap.size, 3, none⟩ (.int .i64 a)).setCell ⟨w.heap.size, 4, none⟩ (.int .i64 b)).frozen? ⟨w.heap.size, 2, none⟩ = false := frozen_set5 cxf2
  replace cxf3 : (((((w2.setCell ⟨w.heap.size, 0, none⟩ (.int .i64 k)).setCell ⟨w.heap.size, 1, none⟩ (.string x1)).setCell ⟨w.heap.size, 2, none⟩ (.string x2)).setCell ⟨w.heap.size, 3, none⟩ (.int .i64 a)).setCell ⟨w.heap.size, 4, none⟩ (.int .i64 b)).frozen? ⟨w.heap.size, 3, none⟩ = false := frozen_set5 cxf3
  replace cxf4 : (((((w2.setCell ⟨w.heap.size, 0, none⟩ (.int .i64 k)).setCell ⟨w.heap.size, 1, none⟩ (.string x1)).setCell ⟨w.heap.size, 2, none⟩ (.string x2)).setCell ⟨w.heap.size, 3, none⟩ (.int .i64 a)).setCell ⟨w.heap.size, 4, none⟩ (.int .i64 b)).frozen? ⟨w.heap.size, 4, none⟩ = false := frozen_set5 cxf4
  clear cx0 cx1 cx2 cx3 cx4
  obtain ⟨cx0, cx1, cx2, cx3, cx4⟩ := k5
  have hge : w.heap.size ≤ w.heap.size := by omega
  replace HB := Lib.hid (show Below w.heap.size w (((((w2.setCell ⟨w.heap.size, 0, none⟩ (.int .i64 k)).setCell ⟨w.heap.size, 1, none⟩ (.string x1)).setCell ⟨w.heap.size, 2, none⟩ (.string x2)).setCell ⟨w.heap.size, 3, none⟩ (.int .i64 a)).setCell ⟨w.heap.size, 4, none⟩ (.int .i64 b)) from below_set5 (R := w.heap.size) (v0 := .int .i64 k) (v1 := .string x1) (v2 := .string x2) (v3 := .int .i64 a) (v4 := .int .i64 b) HB.out hge)
  generalize hh2 : (((((w2.setCell ⟨w.heap.size, 0, none⟩ (.int .i64 k)).setCell ⟨w.heap.size, 1, none⟩ (.string x1)).setCell ⟨w.heap.size, 2, none⟩ (.string x2)).setCell ⟨w.heap.size, 3, none⟩ (.int .i64 a)).setCell ⟨w.heap.size, 4, none⟩ (.int .i64 b)) = v2 at *
  clear hh2
  clear hge
  refine (HLC.out _).mono ?_
  rintro e wc ⟨rfl, rfl⟩
  go_wp2_with fail
  refine (HPR.out _ (HE.out.below HB.out)).mono ?_
  rintro e w3 ⟨rfl, hb⟩
  replace cxf0 := (hb.frozen (World.block_lt_of_cell? _ _ cx0)).trans cxf0
  replace cx0 := (hb.cell (World.block_lt_of_cell? _ _ cx0)).trans cx0
  replace cxf1 := (hb.frozen (World.block_lt_of_cell? _ _ cx1)).trans cxf1
  replace cx1 := (hb.cell (World.block_lt_of_cell? _ _ cx1)).trans cx1
  replace cxf2 := (hb.frozen (World.block_lt_of_cell? _ _ cx2)).trans cxf2
  replace cx2 := (hb.cell (World.block_lt_of_cell? _ _ cx2)).trans cx2
  replace cxf3 := (hb.frozen (World.block_lt_of_cell? _ _ cx3)).trans cxf3
  replace cx3 := (hb.cell (World.block_lt_of_cell? _ _ cx3)).trans cx3
  replace cxf4 := (hb.frozen (World.block_lt_of_cell? _ _ cx4)).trans cxf4
  replace cx4 := (hb.cell (World.block_lt_of_cell? _ _ cx4)).trans cx4
  replace HB := Lib.hid (HB.out.trans (hb.mono HB.out.size))
  clear hb
  go_wp2_with fail
  refine (HHV.out _ (HE.out.below HB.out)).mono ?_
  rintro e w4 ⟨rfl, hb⟩
  replace cxf0 := (hb.frozen (World.block_lt_of_cell? _ _ cx0)).trans cxf0
  replace cx0 := (hb.cell (World.block_lt_of_cell? _ _ cx0)).trans cx0
  replace cxf1 := (hb.frozen (World.block_lt_of_cell? _ _ cx1)).trans cxf1
  replace cx1 := (hb.cell (World.block_lt_of_cell? _ _ cx1)).trans cx1
  replace cxf2 := (hb.frozen (World.block_lt_of_cell? _ _ cx2)).trans cxf2
  replace cx2 := (hb.cell (World.block_lt_of_cell? _ _ cx2)).trans cx2
  replace cxf3 := (hb.frozen (World.block_lt_of_cell? _ _ cx3)).trans cxf3
  replace cx3 := (hb.cell (World.block_lt_of_cell? _ _ cx3)).trans cx3
  replace cxf4 := (hb.frozen (World.block_lt_of_cell? _ _ cx4)).trans cxf4
  replace cx4 := (hb.cell (World.block_lt_of_cell? _ _ cx4)).trans cx4
  replace HB := Lib.hid (HB.out.trans (hb.mono HB.out.size))
  clear hb
  go_wp2_with fail
  refine (HPT.out _ (HE.out.below HB.out)).mono ?_
  rintro e w5 ⟨rfl, hb⟩
  replace cxf0 := (hb.frozen (World.block_lt_of_cell? _ _ cx0)).trans cxf0
  replace cx0 := (hb.cell (World.block_lt_of_cell? _ _ cx0)).trans cx0
  replace cxf1 := (hb.frozen (World.block_lt_of_cell? _ _ cx1)).trans cxf1
  replace cx1 := (hb.cell (World.block_lt_of_cell? _ _ cx1)).trans cx1
  replace cxf2 := (hb.frozen (World.block_lt_of_cell? _ _ cx2)).trans cxf2
  replace cx2 := (hb.cell (World.block_lt_of_cell? _ _ cx2)).trans cx2
  replace cxf3 := (hb.frozen (World.block_lt_of_cell? _ _ cx3)).trans cxf3
  replace cx3 := (hb.cell (World.block_lt_of_cell? _ _ cx3)).trans cx3
  replace cxf4 := (hb.frozen (World.block_lt_of_cell? _ _ cx4)).trans cxf4
  replace cx4 := (hb.cell (World.block_lt_of_cell? _ _ cx4)).trans cx4
  replace HB := Lib.hid (HB.out.trans (hb.mono HB.out.size))
  clear hb
  have hlcy_cx := World.block_lt_of_cell? _ _ cx0
  replace cxf0 : (w5.alloc (.cells #[.int .i64 0, .string ⟨#[]⟩, .string ⟨#[]⟩, .int .i64 0, .int .i64 0] 23)).frozen? ⟨w.heap.size, 0, none⟩ = false := frozen_al cx0 cxf0
  replace cx0 : (w5.alloc (.cells #[.int .i64 0, .string ⟨#[]⟩, .string ⟨#[]⟩, .int .i64 0, .int .i64 0] 23)).cell? ⟨w.heap.size, 0, none⟩ = some (.int .i64 k) := cell_al cx0
  replace cxf1 : (w5.alloc (.cells #[.int .i64 0, .string ⟨#[]⟩, .string ⟨#[]⟩, .int .i64 0, .int .i64 0] 23)).frozen? ⟨w.heap.size, 1, none⟩ = false := frozen_al cx1 cxf1
  replace cx1 : (w5.alloc (.cells #[.int .i64 0, .string ⟨#[]⟩, .string ⟨#[]⟩, .int .i64 0, .int .i64 0] 23)).cell? ⟨w.heap.size, 1, none⟩ = some (.string x1) := cell_al cx1
  replace cxf2 : (w5.alloc (.cells #[.int .i64 0, .string ⟨#[]⟩, .string ⟨#[]⟩, .int .i64 0, .int .i64 0] 23)).frozen? ⟨w.heap.size, 2, none⟩ = false := frozen_al cx2 cxf2
  replace cx2 : (w5.alloc (.cells #[.int .i64 0, .string ⟨#[]⟩, .string ⟨#[]⟩, .int .i64 0, .int .i64 0] 23)).cell? ⟨w.heap.size, 2, none⟩ = some (.string x2) := cell_al cx2
  replace cxf3 : (w5.alloc (.cells #[.int .i64 0, .string ⟨#[]⟩, .string ⟨#[]⟩, .int .i64 0, .int .i64 0] 23)).frozen? ⟨w.heap.size, 3, none⟩ = false := frozen_al cx3 cxf3
  replace cx3 : (w5.alloc (.cells #[.int .i64 0, .string ⟨#[]⟩, .string ⟨#[]⟩, .int .i64 0, .int .i64 0] 23)).cell? ⟨w.heap.size, 3, none⟩ = some (.int .i64 a) := cell_al cx3
  replace cxf4 : (w5.alloc (.cells #[.int .i64 0, .string ⟨#[]⟩, .string ⟨#[]⟩, .int .i64 0, .int .i64 0] 23)).frozen? ⟨w.heap.size, 4, none⟩ = false := frozen_al cx4 cxf4
  replace cx4 : (w5.alloc (.cells #[.int .i64 0, .string ⟨#[]⟩, .string ⟨#[]⟩, .int .i64 0, .int .i64 0] 23)).cell? ⟨w.heap.size, 4, none⟩ = some (.int .i64 b) := cell_al cx4
  have cy0 : (w5.alloc (.cells #[.int .i64 0, .string ⟨#[]⟩, .string ⟨#[]⟩, .int .i64 0, .int .i64 0] 23)).cell? ⟨w5.heap.size, 0, none⟩ = some (.int .i64 0) := by go_simp
  have cy1 : (w5.alloc (.cells #[.int .i64 0, .string ⟨#[]⟩, .string ⟨#[]⟩, .int .i64 0, .int .i64 0] 23)).cell? ⟨w5.heap.size, 1, none⟩ = some (.string ⟨#[]⟩) := by go_simp
  have cy2 : (w5.alloc (.cells #[.int .i64 0, .string ⟨#[]⟩, .string ⟨#[]⟩, .int .i64 0, .int .i64 0] 23)).cell? ⟨w5.heap.size, 2, none⟩ = some (.string ⟨#[]⟩) := by go_simp
  have cy3 : (w5.alloc (.cells #[.int .i64 0, .string ⟨#[]⟩, .string ⟨#[]⟩, .int .i64 0, .int .i64 0] 23)).cell? ⟨w5.heap.size, 3, none⟩ = some (.int .i64 0) := by go_simp
  have cy4 : (w5.alloc (.cells #[.int .i64 0, .string ⟨#[]⟩, .string ⟨#[]⟩, .int .i64 0, .int .i64 0] 23)).cell? ⟨w5.heap.size, 4, none⟩ = some (.int .i64 0) := by go_simp
  go_wp2_with fail
  replace HB := Lib.hid (show Below w.heap.size w (w5.alloc (.cells #[.int .i64 0, .string ⟨#[]⟩, .string ⟨#[]⟩, .int .i64 0, .int .i64 0] 23)) from below_alloc_l (HB.out))
  generalize hh3 : (w5.alloc (.cells #[.int .i64 0, .string ⟨#[]⟩, .string ⟨#[]⟩, .int .i64 0, .int .i64 0] 23)) = v3 at *
  clear hh3
  refine (HJN.out _ (HE.out.below HB.out)).mono ?_
  rintro e w6 ⟨rfl, hb⟩
  replace cxf0 := (hb.frozen (World.block_lt_of_cell? _ _ cx0)).trans cxf0
  replace cx0 := (hb.cell (World.block_lt_of_cell? _ _ cx0)).trans cx0
  replace cxf1 := (hb.frozen (World.block_lt_of_cell? _ _ cx1)).trans cxf1
  replace cx1 := (hb.cell (World.block_lt_of_cell? _ _ cx1)).trans cx1
  replace cxf2 := (hb.frozen (World.block_lt_of_cell? _ _ cx2)).trans cxf2
  replace cx2 := (hb.cell (World.block_lt_of_cell? _ _ cx2)).trans cx2
  replace cxf3 := (hb.frozen (World.block_lt_of_cell? _ _ cx3)).trans cxf3
  replace cx3 := (hb.cell (World.block_lt_of_cell? _ _ cx3)).trans cx3
  replace cxf4 := (hb.frozen (World.block_lt_of_cell? _ _ cx4)).trans cxf4
  replace cx4 := (hb.cell (World.block_lt_of_cell? _ _ cx4)).trans cx4
  replace cy0 := (hb.cell (World.block_lt_of_cell? _ _ cy0)).trans cy0
  replace cy1 := (hb.cell (World.block_lt_of_cell? _ _ cy1)).trans cy1
  replace cy2 := (hb.cell (World.block_lt_of_cell? _ _ cy2)).trans cy2
  replace cy3 := (hb.cell (World.block_lt_of_cell? _ _ cy3)).trans cy3
  replace cy4 := (hb.cell (World.block_lt_of_cell? _ _ cy4)).trans cy4
  replace HB := Lib.hid (HB.out.trans (hb.mono HB.out.size))
  clear hb
  have hlcz_cx := World.block_lt_of_cell? _ _ cx0
  have hlcz_cy := World.block_lt_of_cell? _ _ cy0
  replace cxf0 : (w6.alloc (.cells #[.int .i64 0, .string ⟨#[]⟩, .string ⟨#[]⟩, .int .i64 0, .int .i64 0] 23)).frozen? ⟨w.heap.size, 0, none⟩ = false := frozen_al cx0 cxf0
  replace cx0 : (w6.alloc (.cells #[.int .i64 0, .string ⟨#[]⟩, .string ⟨#[]⟩, .int .i64 0, .int .i64 0] 23)).cell? ⟨w.heap.size, 0, none⟩ = some (.int .i64 k) := cell_al cx0
  replace cxf1 : (w6.alloc (.cells #[.int .i64 0, .string ⟨#[]⟩, .string ⟨#[]⟩, .int .i64 0, .int .i64 0] 23)).frozen? ⟨w.heap.size, 1, none⟩ = false := frozen_al cx1 cxf1
  replace cx1 : (w6.alloc (.cells #[.int .i64 0, .string ⟨#[]⟩, .string ⟨#[]⟩, .int .i64 0, .int .i64 0] 23)).cell? ⟨w.heap.size, 1, none⟩ = some (.string x1) := cell_al cx1
  replace cxf2 : (w6.alloc (.cells #[.int .i64 0, .string ⟨#[]⟩, .string ⟨#[]⟩, .int .i64 0, .int .i64 0] 23)).frozen? ⟨w.heap.size, 2, none⟩ = false := frozen_al cx2 cxf2
  replace cx2 : (w6.alloc (.cells #[.int .i64 0, .string ⟨#[]⟩, .string ⟨#[]⟩, .int .i64 0, .int .i64 0] 23)).cell? ⟨w.heap.size, 2, none⟩ = some (.string x2) := cell_al cx2
  replace cxf3 : (w6.alloc (.cells #[.int .i64 0, .string ⟨#[]⟩, .string ⟨#[]⟩, .int .i64 0, .int .i64 0] 23)).frozen? ⟨w.heap.size, 3, none⟩ = false := frozen_al cx3 cxf3
  replace cx3 : (w6.alloc (.cells #[.int .i64 0, .string ⟨#[]⟩, .string ⟨#[]⟩, .int .i64 0, .int .i64 0] 23)).cell? ⟨w.heap.size, 3, none⟩ = some (.int .i64 a) := cell_al cx3
  replace cxf4 : (w6.alloc (.cells #[.int .i64 0, .string ⟨#[]⟩, .string ⟨#[]⟩, .int .i64 0, .int .i64 0] 23)).frozen? ⟨w.heap.size, 4, none⟩ = false := frozen_al cx4 cxf4
  replace cx4 : (w6.alloc (.cells #[.int .i64 0, .string ⟨#[]⟩, .string ⟨#[]⟩, .int .i64 0, .int .i64 0] 23)).cell? ⟨w.heap.size, 4, none⟩ = some (.int .i64 b) := cell_al cx4
  replace cy0 : (w6.alloc (.cells #[.int .i64 0, .string ⟨#[]⟩, .string ⟨#[]⟩, .int .i64 0, .int .i64 0] 23)).cell? ⟨w5.heap.size, 0, none⟩ = some (.int .i64 0) := cell_al cy0
  replace cy1 : (w6.alloc (.cells #[.int .i64 0, .string ⟨#[]⟩, .string ⟨#[]⟩, .int .i64 0, .int .i64 0] 23)).cell? ⟨w5.heap.size, 1, none⟩ = some (.string ⟨#[]⟩) := cell_al cy1
  replace cy2 : (w6.alloc (.cells #[.int .i64 0, .string ⟨#[]⟩, .string ⟨#[]⟩, .int .i64 0, .int .i64 0] 23)).cell? ⟨w5.heap.size, 2, none⟩ = some (.string ⟨#[]⟩) := cell_al cy2
  replace cy3 : (w6.alloc (.cells #[.int .i64 0, .string ⟨#[]⟩, .string ⟨#[]⟩, .int .i64 0, .int .i64 0] 23)).cell? ⟨w5.heap.size, 3, none⟩ = some (.int .i64 0) := cell_al cy3
  replace cy4 : (w6.alloc (.cells #[.int .i64 0, .string ⟨#[]⟩, .string ⟨#[]⟩, .int .i64 0, .int .i64 0] 23)).cell? ⟨w5.heap.size, 4, none⟩ = some (.int .i64 0) := cell_al cy4
  have cz0 : (w6.alloc (.cells #[.int .i64 0, .string ⟨#[]⟩, .string ⟨#[]⟩, .int .i64 0, .int .i64 0] 23)).cell? ⟨w6.heap.size, 0, none⟩ = some (.int .i64 0) := by go_simp
  have cz1 : (w6.alloc (.cells #[.int .i64 0, .string ⟨#[]⟩, .string ⟨#[]⟩, .int .i64 0, .int .i64 0] 23)).cell? ⟨w6.heap.size, 1, none⟩ = some (.string ⟨#[]⟩) := by go_simp
  have cz2 : (w6.alloc (.cells #[.int .i64 0, .string ⟨#[]⟩, .string ⟨#[]⟩, .int .i64 0, .int .i64 0] 23)).cell? ⟨w6.heap.size, 2, none⟩ = some (.string ⟨#[]⟩) := by go_simp
  have cz3 : (w6.alloc (.cells #[.int .i64 0, .string ⟨#[]⟩, .string ⟨#[]⟩, .int .i64 0, .int .i64 0] 23)).cell? ⟨w6.heap.size, 3, none⟩ = some (.int .i64 0) := by go_simp
  have cz4 : (w6.alloc (.cells #[.int .i64 0, .string ⟨#[]⟩, .string ⟨#[]⟩, .int .i64 0, .int .i64 0] 23)).cell? ⟨w6.heap.size, 4, none⟩ = some (.int .i64 0) := by go_simp
  go_wp2_with fail
  replace HB := Lib.hid (show Below w.heap.size w (w6.alloc (.cells #[.int .i64 0, .string ⟨#[]⟩, .string ⟨#[]⟩, .int .i64 0, .int .i64 0] 23)) from below_alloc_l (HB.out))
  generalize hh4 : (w6.alloc (.cells #[.int .i64 0, .string ⟨#[]⟩, .string ⟨#[]⟩, .int .i64 0, .int .i64 0] 23)) = v4 at *
  clear hh4
  refine (HPS.out _ (HE.out.below HB.out)).mono ?_
  rintro e w7 ⟨rfl, hb⟩
  replace cxf0 := (hb.frozen (World.block_lt_of_cell? _ _ cx0)).trans cxf0
  replace cx0 := (hb.cell (World.block_lt_of_cell? _ _ cx0)).trans cx0
  replace cxf1 := (hb.frozen (World.block_lt_of_cell? _ _ cx1)).trans cxf1
  replace cx1 := (hb.cell (World.block_lt_of_cell? _ _ cx1)).trans cx1
  replace cxf2 := (hb.frozen (World.block_lt_of_cell? _ _ cx2)).trans cxf2
  replace cx2 := (hb.cell (World.block_lt_of_cell? _ _ cx2)).trans cx2
  replace cxf3 := (hb.frozen (World.block_lt_of_cell? _ _ cx3)).trans cxf3
  replace cx3 := (hb.cell (World.block_lt_of_cell? _ _ cx3)).trans cx3
  replace cxf4 := (hb.frozen (World.block_lt_of_cell? _ _ cx4)).trans cxf4
  replace cx4 := (hb.cell (World.block_lt_of_cell? _ _ cx4)).trans cx4
  replace cy0 := (hb.cell (World.block_lt_of_cell? _ _ cy0)).trans cy0
  replace cy1 := (hb.cell (World.block_lt_of_cell? _ _ cy1)).trans cy1
  replace cy2 := (hb.cell (World.block_lt_of_cell? _ _ cy2)).trans cy2
  replace cy3 := (hb.cell (World.block_lt_of_cell? _ _ cy3)).trans cy3
  replace cy4 := (hb.cell (World.block_lt_of_cell? _ _ cy4)).trans cy4
  replace cz0 := (hb.cell (World.block_lt_of_cell? _ _ cz0)).trans cz0
  replace cz1 := (hb.cell (World.block_lt_of_cell? _ _ cz1)).trans cz1
  replace cz2 := (hb.cell (World.block_lt_of_cell? _ _ cz2)).trans cz2
  replace cz3 := (hb.cell (World.block_lt_of_cell? _ _ cz3)).trans cz3
  replace cz4 := (hb.cell (World.block_lt_of_cell? _ _ cz4)).trans cz4
  replace HB := Lib.hid (HB.out.trans (hb.mono HB.out.size))
  clear hb
  clear cy0 cy1 cy2 cy3 cy4
  clear cz0 cz1 cz2 cz3 cz4
  have hlcw_cx := World.block_lt_of_cell? _ _ cx0
  replace cxf0 : (w7.alloc (.cells #[.int .i64 0, .string ⟨#[]⟩, .string ⟨#[]⟩, .int .i64 0, .int .i64 0] 23)).frozen? ⟨w.heap.size, 0, none⟩ = false := frozen_al cx0 cxf0
  replace cx0 : (w7.alloc (.cells #[.int .i64 0, .string ⟨#[]⟩, .string ⟨#[]⟩, .int .i64 0, .int .i64 0] 23)).cell? ⟨w.heap.size, 0, none⟩ = some (.int .i64 k) := cell_al cx0
  replace cxf1 : (w7.alloc (.cells #[.int .i64 0, .string ⟨#[]⟩, .string ⟨#[]⟩, .int .i64 0, .int .i64 0] 23)).frozen? ⟨w.heap.size, 1, none⟩ = false := frozen_al cx1 cxf1
  replace cx1 : (w7.alloc (.cells #[.int .i64 0, .string ⟨#[]⟩, .string ⟨#[]⟩, .int .i64 0, .int .i64 0] 23)).cell? ⟨w.heap.size, 1, none⟩ = some (.string x1) := cell_al cx1
  replace cxf2 : (w7.alloc (.cells #[.int .i64 0, .string ⟨#[]⟩, .string ⟨#[]⟩, .int .i64 0, .int .i64 0] 23)).frozen? ⟨w.heap.size, 2, none⟩ = false := frozen_al cx2 cxf2
  replace cx2 : (w7.alloc (.cells #[.int .i64 0, .string ⟨#[]⟩, .string ⟨#[]⟩, .int .i64 0, .int .i64 0] 23)).cell? ⟨w.heap.size, 2, none⟩ = some (.string x2) := cell_al cx2
  replace cxf3 : (w7.alloc (.cells #[.int .i64 0, .string ⟨#[]⟩, .string ⟨#[]⟩, .int .i64 0, .int .i64 0] 23)).frozen? ⟨w.heap.size, 3, none⟩ = false := frozen_al cx3 cxf3
  replace cx3 : (w7.alloc (.cells #[.int .i64 0, .string ⟨#[]⟩, .string ⟨#[]⟩, .int .i64 0, .int .i64 0] 23)).cell? ⟨w.heap.size, 3, none⟩ = some (.int .i64 a) := cell_al cx3
  replace cxf4 : (w7.alloc (.cells #[.int .i64 0, .string ⟨#[]⟩, .string ⟨#[]⟩, .int .i64 0, .int .i64 0] 23)).frozen? ⟨w.heap.size, 4, none⟩ = false := frozen_al cx4 cxf4
  replace cx4 : (w7.alloc (.cells #[.int .i64 0, .string ⟨#[]⟩, .string ⟨#[]⟩, .int .i64 0, .int .i64 0] 23)).cell? ⟨w.heap.size, 4, none⟩ = some (.int .i64 b) := cell_al cx4
  have cw0 : (w7.alloc (.cells #[.int .i64 0, .string ⟨#[]⟩, .string ⟨#[]⟩, .int .i64 0, .int .i64 0] 23)).cell? ⟨w7.heap.size, 0, none⟩ = some (.int .i64 0) := by go_simp
  have cw1 : (w7.alloc (.cells #[.int .i64 0, .string ⟨#[]⟩, .string ⟨#[]⟩, .int .i64 0, .int .i64 0] 23)).cell? ⟨w7.heap.size, 1, none⟩ = some (.string ⟨#[]⟩) := by go_simp
  have cw2 : (w7.alloc (.cells #[.int .i64 0, .string ⟨#[]⟩, .string ⟨#[]⟩, .int .i64 0, .int .i64 0] 23)).cell? ⟨w7.heap.size, 2, none⟩ = some (.string ⟨#[]⟩) := by go_simp
  have cw3 : (w7.alloc (.cells #[.int .i64 0, .string ⟨#[]⟩, .string ⟨#[]⟩, .int .i64 0, .int .i64 0] 23)).cell? ⟨w7.heap.size, 3, none⟩ = some (.int .i64 0) := by go_simp
  have cw4 : (w7.alloc (.cells #[.int .i64 0, .string ⟨#[]⟩, .string ⟨#[]⟩, .int .i64 0, .int .i64 0] 23)).cell? ⟨w7.heap.size, 4, none⟩ = some (.int .i64 0) := by go_simp
  go_wp2_with fail
  replace HB := Lib.hid (show Below w.heap.size w (w7.alloc (.cells #[.int .i64 0, .string ⟨#[]⟩, .string ⟨#[]⟩, .int .i64 0, .int .i64 0] 23)) from below_alloc_l (HB.out))
  generalize hh5 : (w7.alloc (.cells #[.int .i64 0, .string ⟨#[]⟩, .string ⟨#[]⟩, .int .i64 0, .int .i64 0] 23)) = v5 at *
  clear hh5
  refine (HPW.out _ (HE.out.below HB.out)).mono ?_
  rintro e w8 ⟨rfl, hb⟩
  replace cxf0 := (hb.frozen (World.block_lt_of_cell? _ _ cx0)).trans cxf0
  replace cx0 := (hb.cell (World.block_lt_of_cell? _ _ cx0)).trans cx0
  replace cxf1 := (hb.frozen (World.block_lt_of_cell? _ _ cx1)).trans cxf1
  replace cx1 := (hb.cell (World.block_lt_of_cell? _ _ cx1)).trans cx1
  replace cxf2 := (hb.frozen (World.block_lt_of_cell? _ _ cx2)).trans cxf2
  replace cx2 := (hb.cell (World.block_lt_of_cell? _ _ cx2)).trans cx2
  replace cxf3 := (hb.frozen (World.block_lt_of_cell? _ _ cx3)).trans cxf3
  replace cx3 := (hb.cell (World.block_lt_of_cell? _ _ cx3)).trans cx3
  replace cxf4 := (hb.frozen (World.block_lt_of_cell? _ _ cx4)).trans cxf4
  replace cx4 := (hb.cell (World.block_lt_of_cell? _ _ cx4)).trans cx4
  replace cw0 := (hb.cell (World.block_lt_of_cell? _ _ cw0)).trans cw0
  replace cw1 := (hb.cell (World.block_lt_of_cell? _ _ cw1)).trans cw1
  replace cw2 := (hb.cell (World.block_lt_of_cell? _ _ cw2)).trans cw2
  replace cw3 := (hb.cell (World.block_lt_of_cell? _ _ cw3)).trans cw3
  replace cw4 := (hb.cell (World.block_lt_of_cell? _ _ cw4)).trans cw4
  replace HB := Lib.hid (HB.out.trans (hb.mono HB.out.size))
  clear hb
  go_wp2_with fail
  refine (HR.out _ (HE.out.below HB.out)).mono ?_
  rintro e w9 ⟨rfl, hb⟩
  replace cxf0 := (hb.frozen (World.block_lt_of_cell? _ _ cx0)).trans cxf0
  replace cx0 := (hb.cell (World.block_lt_of_cell? _ _ cx0)).trans cx0
  replace cxf1 := (hb.frozen (World.block_lt_of_cell? _ _ cx1)).trans cxf1
  replace cx1 := (hb.cell (World.block_lt_of_cell? _ _ cx1)).trans cx1
  replace cxf2 := (hb.frozen (World.block_lt_of_cell? _ _ cx2)).trans cxf2
  replace cx2 := (hb.cell (World.block_lt_of_cell? _ _ cx2)).trans cx2
  replace cxf3 := (hb.frozen (World.block_lt_of_cell? _ _ cx3)).trans cxf3
  replace cx3 := (hb.cell (World.block_lt_of_cell? _ _ cx3)).trans cx3
  replace cxf4 := (hb.frozen (World.block_lt_of_cell? _ _ cx4)).trans cxf4
  replace cx4 := (hb.cell (World.block_lt_of_cell? _ _ cx4)).trans cx4
  replace cw0 := (hb.cell (World.block_lt_of_cell? _ _ cw0)).trans cw0
  replace cw1 := (hb.cell (World.block_lt_of_cell? _ _ cw1)).trans cw1
  replace cw2 := (hb.cell (World.block_lt_of_cell? _ _ cw2)).trans cw2
  replace cw3 := (hb.cell (World.block_lt_of_cell? _ _ cw3)).trans cw3
  replace cw4 := (hb.cell (World.block_lt_of_cell? _ _ cw4)).trans cw4
  replace HB := Lib.hid (HB.out.trans (hb.mono HB.out.size))
  clear hb
  clear HCUT HLC HPR HHV HPT HJN HPS HPW HR HE
  go_wp2_with fail
  go_ret
  exact ⟨rfl, HB.out⟩

set_option maxRecDepth 100000 in
set_option maxHeartbeats 4000000 in
theorem back_01 (k a b pk pa pb : Int) (nd sv x1 x2 s sc s1 t1 u y1 pn ps tw : ByteArray) (w : World) (HE : Hid (EnvN w))
    (HCUT : Hid (∀ W, Calls Tryd.prog 9 #[.agg #[.int .i64 k, .string nd, .string sv, .int .i64 a, .int .i64 b]] W fun e w' => e = .returned (.agg #[.int .i64 k, .string x1, .string x2, .int .i64 a, .int .i64 b]) ∧ Below W.heap.size W w'))
    (HLC : Hid (∀ W, Calls Tryd.prog 10 #[.string s] W fun e w' => e = .returned (.string sc) ∧ W = w'))
    (HPR : Hid (∀ W, EnvN W → Calls Tryd.prog 15 #[.agg #[.int .i64 k, .string x1, .string x2, .int .i64 a, .int .i64 b]] W fun e w' => e = .returned (.tuple #[.string ⟨#[]⟩, .int .i64 60]) ∧ Below W.heap.size W w'))
    (HHV : Hid (∀ W, EnvN W → Calls Tryd.prog 11 #[.agg #[.int .i64 k, .string x1, .string x2, .int .i64 a, .int .i64 b]] W fun e w' => e = .returned (.tuple #[.string ⟨#[]⟩, .string ⟨#[]⟩, .int .i64 60]) ∧ Below W.heap.size W w'))
    (HPT : Hid (∀ W, EnvN W → Calls Tryd.prog 17 #[.string ⟨#[]⟩] W fun e w' => e = .returned (.tuple #[.agg #[.int .i64 0, .string ⟨#[]⟩, .string ⟨#[]⟩, .int .i64 0, .int .i64 0], .int .i64 60]) ∧ Below W.heap.size W w'))
    (HJN : Hid (∀ W, EnvN W → Calls Tryd.prog 13 #[.string ⟨#[]⟩, .string ⟨#[]⟩] W fun e w' => e = .returned (.tuple #[.agg #[.int .i64 0, .string ⟨#[]⟩, .string ⟨#[]⟩, .int .i64 0, .int .i64 0], .int .i64 60]) ∧ Below W.heap.size W w'))
    (HPS : Hid (∀ W, EnvN W → Calls Tryd.prog 17 #[.string sc] W fun e w' => e = .returned (.tuple #[.agg #[.int .i64 pk, .string pn, .string ps, .int .i64 pa, .int .i64 pb], .int .i64 0]) ∧ Below W.heap.size W w'))
    (HPW : Hid (∀ W, EnvN W → Calls Tryd.prog 15 #[.agg #[.int .i64 pk, .string pn, .string ps, .int .i64 pa, .int .i64 pb]] W fun e w' => e = .returned (.tuple #[.string sc, .int .i64 0]) ∧ Below W.heap.size W w'))
    (HR : Hid (∀ W, EnvN W → Calls Tryd.prog 21 #[.agg #[.int .i64 k, .string x1, .string x2, .int .i64 a, .int .i64 b]] W fun e w' => e = .returned (.bool false) ∧ Below W.heap.size W w'))
   :
    Calls Tryd.prog 4 #[.agg #[.int .i64 k, .string nd, .string sv, .int .i64 a, .int .i64 b], .string s] w fun e w' => e = .returned (.bool true) ∧ Below w.heap.size w w' := by
  have e1 : ∀ W : World, (binOp .neq 23 (.agg #[.int .i64 k, .string x1, .string x2, .int .i64 a, .int .i64 b]) (.agg #[.int .i64 k, .string x1, .string x2, .int .i64 a, .int .i64 b])).run Tryd.prog W = .ok (.bool false) W := fun W => by rw [nm_neq, nmE_iff.2 ⟨rfl, rfl, rfl, rfl, rfl⟩]; rfl
  have e3 : ∀ W : World, (binOp .eql 23 (.agg #[.int .i64 0, .string ⟨#[]⟩, .string ⟨#[]⟩, .int .i64 0, .int .i64 0]) (.agg #[.int .i64 0, .string ⟨#[]⟩, .string ⟨#[]⟩, .int .i64 0, .int .i64 0])).run Tryd.prog W = .ok (.bool true) W := fun W => by rw [nm_eql, nmE_iff.2 ⟨rfl, rfl, rfl, rfl, rfl⟩]
  go_enter Tryd.func4, Tryd.ntmps4
  go_wp2_with fail
  have cx0 : (w.alloc (.cells #[.int .i64 k, .string nd, .string sv, .int .i64 a, .int .i64 b] 23)).cell? ⟨w.heap.size, 0, none⟩ = some (.int .i64 k) := by go_simp
  have cxf0 : (w.alloc (.cells #[.int .i64 k, .string nd, .string sv, .int .i64 a, .int .i64 b] 23)).frozen? ⟨w.heap.size, 0, none⟩ = false := by go_simp
  have cx1 : (w.alloc (.cells #[.int .i64 k, .string nd, .string sv, .int .i64 a, .int .i64 b] 23)).cell? ⟨w.heap.size, 1, none⟩ = some (.string nd) := by go_simp
  have cxf1 : (w.alloc (.cells #[.int .i64 k, .string nd, .string sv, .int .i64 a, .int .i64 b] 23)).frozen? ⟨w.heap.size, 1, none⟩ = false := by go_simp
  have cx2 : (w.alloc (.cells #[.int .i64 k, .string nd, .string sv, .int .i64 a, .int .i64 b] 23)).cell? ⟨w.heap.size, 2, none⟩ = some (.string sv) := by go_simp
  have cxf2 : (w.alloc (.cells #[.int .i64 k, .string nd, .string sv, .int .i64 a, .int .i64 b] 23)).frozen? ⟨w.heap.size, 2, none⟩ = false := by go_simp
  have cx3 : (w.alloc (.cells #[.int .i64 k, .string nd, .string sv, .int .i64 a, .int .i64 b] 23)).cell? ⟨w.heap.size, 3, none⟩ = some (.int .i64 a) := by go_simp
  have cxf3 : (w.alloc (.cells #[.int .i64 k, .string nd, .string sv, .int .i64 a, .int .i64 b] 23)).frozen? ⟨w.heap.size, 3, none⟩ = false := by go_simp
  have cx4 : (w.alloc (.cells #[.int .i64 k, .string nd, .string sv, .int .i64 a, .int .i64 b] 23)).cell? ⟨w.heap.size, 4, none⟩ = some (.int .i64 b) := by go_simp
  have cxf4 : (w.alloc (.cells #[.int .i64 k, .string nd, .string sv, .int .i64 a, .int .i64 b] 23)).frozen? ⟨w.heap.size, 4, none⟩ = false := by go_simp
  have HB := Lib.hid (show Below w.heap.size w (w.alloc (.cells #[.int .i64 k, .string nd, .string sv, .int .i64 a, .int .i64 b] 23)) from below_alloc_l (Below.refl _ _))
  generalize hh1 : (w.alloc (.cells #[.int .i64 k, .string nd, .string sv, .int .i64 a, .int .i64 b] 23)) = v1 at *
  clear hh1
  refine (shown_any _ (HE.out.below HB.out)).mono ?_
  rintro e w1 ⟨rfl, hb⟩
  replace cxf0 := (hb.frozen (World.block_lt_of_cell? _ _ cx0)).trans cxf0
  replace cx0 := (hb.cell (World.block_lt_of_cell? _ _ cx0)).trans cx0
  replace cxf1 := (hb.frozen (World.block_lt_of_cell? _ _ cx1)).trans cxf1
  replace cx1 := (hb.cell (World.block_lt_of_cell? _ _ cx1)).trans cx1
  replace cxf2 := (hb.frozen (World.block_lt_of_cell? _ _ cx2)).trans cxf2
  replace cx2 := (hb.cell (World.block_lt_of_cell? _ _ cx2)).trans cx2
  replace cxf3 := (hb.frozen (World.block_lt_of_cell? _ _ cx3)).trans cxf3
  replace cx3 := (hb.cell (World.block_lt_of_cell? _ _ cx3)).trans cx3
  replace cxf4 := (hb.frozen (World.block_lt_of_cell? _ _ cx4)).trans cxf4
  replace cx4 := (hb.cell (World.block_lt_of_cell? _ _ cx4)).trans cx4
  replace HB := Lib.hid (HB.out.trans (hb.mono HB.out.size))
  clear hb
  go_wp2_with fail
  refine (HCUT.out _).mono ?_
  rintro e w2 ⟨rfl, hb⟩
  replace cxf0 := (hb.frozen (World.block_lt_of_cell? _ _ cx0)).trans cxf0
  replace cx0 := (hb.cell (World.block_lt_of_cell? _ _ cx0)).trans cx0
  replace cxf1 := (hb.frozen (World.block_lt_of_cell? _ _ cx1)).trans cxf1
  replace cx1 := (hb.cell (World.block_lt_of_cell? _ _ cx1)).trans cx1
  replace cxf2 := (hb.frozen (World.block_lt_of_cell? _ _ cx2)).trans cxf2
  replace cx2 := (hb.cell (World.block_lt_of_cell? _ _ cx2)).trans cx2
  replace cxf3 := (hb.frozen (World.block_lt_of_cell? _ _ cx3)).trans cxf3
  replace cx3 := (hb.cell (World.block_lt_of_cell? _ _ cx3)).trans cx3
  replace cxf4 := (hb.frozen (World.block_lt_of_cell? _ _ cx4)).trans cxf4
  replace cx4 := (hb.cell (World.block_lt_of_cell? _ _ cx4)).trans cx4
  replace HB := Lib.hid (HB.out.trans (hb.mono HB.out.size))
  clear hb
  go_wp2_with fail
  have k5 := set5 (v0 := .int .i64 k) (v1 := .string x1) (v2 := .string x2) (v3 := .int .i64 a) (v4 := .int .i64 b) cx0 cx1 cx2 cx3 cx4
  replace cxf0 : (((((w2.setCell ⟨w.heap.size, 0, none⟩ (.int .i64 k)).setCell ⟨w.heap.size, 1, none⟩ (.string x1)).setCell ⟨w.heap.size, 2, none⟩ (.string x2)).setCell ⟨w.heap.size, 3, none⟩ (.int .i64 a)).setCell ⟨w.heap.size, 4, none⟩ (.int .i64 b)).frozen? ⟨w.heap.size, 0, none⟩ = false := frozen_set5 cxf0
  replace cxf1 : (((((w2.setCell ⟨w.heap.size, 0, none⟩ (.int .i64 k)).setCell ⟨w.heap.size, 1, none⟩ (.string x1)).setCell ⟨w.heap.size, 2, none⟩ (.string x2)).setCell ⟨w.heap.size, 3, none⟩ (.int .i64 a)).setCell ⟨w.heap.size, 4, none⟩ (.int .i64 b)).frozen? ⟨w.heap.size, 1, none⟩ = false := frozen_set5 cxf1
  replace cxf2 : (((((w2.setCell ⟨w.heap.size, 0, none⟩ (.int .i64 k)).setCell ⟨w.heap.size, 1, none⟩ (.string x1)).setCell ⟨w.heap.size, 2, none⟩ (.string x2)).setCell ⟨w.heap.size, 3, none⟩ (.int .i64 a)).setCell ⟨w.heap.size, 4, none⟩ (.int .i64 b)).frozen? ⟨w.heap.size, 2, none⟩ = false := frozen_set5 cxf2
  replace cxf3 : (((((w2.setCell ⟨w.heap.size, 0, none⟩ (.int .i64 k)).setCell ⟨w.heap.size, 1, none⟩ (.string x1)).setCell ⟨w.heap.size, 2, none⟩ (.string x2)).setCell ⟨w.heap.size, 3, none⟩ (.int .i64 a)).setCell ⟨w.heap.size, 4, none⟩ (.int .i64 b)).frozen? ⟨w.heap.size, 3, none⟩ = false := frozen_set5 cxf3
  replace cxf4 : (((((w2.setCell ⟨w.heap.size, 0, none⟩ (.int .i64 k)).setCell ⟨w.heap.size, 1, none⟩ (.string x1)).setCell ⟨w.heap.size, 2, none⟩ (.string x2)).setCell ⟨w.heap.size, 3, none⟩ (.int .i64 a)).setCell ⟨w.heap.size, 4, none⟩ (.int .i64 b)).frozen? ⟨w.heap.size, 4, none⟩ = false := frozen_set5 cxf4
  clear cx0 cx1 cx2 cx3 cx4
  obtain ⟨cx0, cx1, cx2, cx3, cx4⟩ := k5
  have hge : w.heap.size ≤ w.heap.size := by omega
  replace HB := Lib.hid (show Below w.heap.size w (((((w2.setCell ⟨w.heap.size, 0, none⟩ (.int .i64 k)).setCell ⟨w.heap.size, 1, none⟩ (.string x1)).setCell ⟨w.heap.size, 2, none⟩ (.string x2)).setCell ⟨w.heap.size, 3, none⟩ (.int .i64 a)).setCell ⟨w.heap.size, 4, none⟩ (.int .i64 b)) from below_set5 (R := w.heap.size) (v0 := .int .i64 k) (v1 := .string x1) (v2 := .string x2) (v3 := .int .i64 a) (v4 := .int .i64 b) HB.out hge)
  generalize hh2 : (((((w2.setCell ⟨w.heap.size, 0, none⟩ (.int .i64 k)).setCell ⟨w.heap.size, 1, none⟩ (.string x1)).setCell ⟨w.heap.size, 2, none⟩ (.string x2)).setCell ⟨w.heap.size, 3, none⟩ (.int .i64 a)).setCell ⟨w.heap.size, 4, none⟩ (.int .i64 b)) = v2 at *
  clear hh2
  clear hge
  refine (HLC.out _).mono ?_
  rintro e wc ⟨rfl, rfl⟩
  go_wp2_with fail
  refine (HPR.out _ (HE.out.below HB.out)).mono ?_
  rintro e w3 ⟨rfl, hb⟩
  replace cxf0 := (hb.frozen (World.block_lt_of_cell? _ _ cx0)).trans cxf0
  replace cx0 := (hb.cell (World.block_lt_of_cell? _ _ cx0)).trans cx0
  replace cxf1 := (hb.frozen (World.block_lt_of_cell? _ _ cx1)).trans cxf1
  replace cx1 := (hb.cell (World.block_lt_of_cell? _ _ cx1)).trans cx1
  replace cxf2 := (hb.frozen (World.block_lt_of_cell? _ _ cx2)).trans cxf2
  replace cx2 := (hb.cell (World.block_lt_of_cell? _ _ cx2)).trans cx2
  replace cxf3 := (hb.frozen (World.block_lt_of_cell? _ _ cx3)).trans cxf3
  replace cx3 := (hb.cell (World.block_lt_of_cell? _ _ cx3)).trans cx3
  replace cxf4 := (hb.frozen (World.block_lt_of_cell? _ _ cx4)).trans cxf4
  replace cx4 := (hb.cell (World.block_lt_of_cell? _ _ cx4)).trans cx4
  replace HB := Lib.hid (HB.out.trans (hb.mono HB.out.size))
  clear hb
  go_wp2_with fail
  refine (HHV.out _ (HE.out.below HB.out)).mono ?_
  rintro e w4 ⟨rfl, hb⟩
  replace cxf0 := (hb.frozen (World.block_lt_of_cell? _ _ cx0)).trans cxf0
  replace cx0 := (hb.cell (World.block_lt_of_cell? _ _ cx0)).trans cx0
  replace cxf1 := (hb.frozen (World.block_lt_of_cell? _ _ cx1)).trans cxf1
  replace cx1 := (hb.cell (World.block_lt_of_cell? _ _ cx1)).trans cx1
  replace cxf2 := (hb.frozen (World.block_lt_of_cell? _ _ cx2)).trans cxf2
  replace cx2 := (hb.cell (World.block_lt_of_cell? _ _ cx2)).trans cx2
  replace cxf3 := (hb.frozen (World.block_lt_of_cell? _ _ cx3)).trans cxf3
  replace cx3 := (hb.cell (World.block_lt_of_cell? _ _ cx3)).trans cx3
  replace cxf4 := (hb.frozen (World.block_lt_of_cell? _ _ cx4)).trans cxf4
  replace cx4 := (hb.cell (World.block_lt_of_cell? _ _ cx4)).trans cx4
  replace HB := Lib.hid (HB.out.trans (hb.mono HB.out.size))
  clear hb
  go_wp2_with fail
  refine (HPT.out _ (HE.out.below HB.out)).mono ?_
  rintro e w5 ⟨rfl, hb⟩
  replace cxf0 := (hb.frozen (World.block_lt_of_cell? _ _ cx0)).trans cxf0
  replace cx0 := (hb.cell (World.block_lt_of_cell? _ _ cx0)).trans cx0
  replace cxf1 := (hb.frozen (World.block_lt_of_cell? _ _ cx1)).trans cxf1
  replace cx1 := (hb.cell (World.block_lt_of_cell? _ _ cx1)).trans cx1
  replace cxf2 := (hb.frozen (World.block_lt_of_cell? _ _ cx2)).trans cxf2
  replace cx2 := (hb.cell (World.block_lt_of_cell? _ _ cx2)).trans cx2
  replace cxf3 := (hb.frozen (World.block_lt_of_cell? _ _ cx3)).trans cxf3
  replace cx3 := (hb.cell (World.block_lt_of_cell? _ _ cx3)).trans cx3
  replace cxf4 := (hb.frozen (World.block_lt_of_cell? _ _ cx4)).trans cxf4
  replace cx4 := (hb.cell (World.block_lt_of_cell? _ _ cx4)).trans cx4
  replace HB := Lib.hid (HB.out.trans (hb.mono HB.out.size))
  clear hb
  have hlcy_cx := World.block_lt_of_cell? _ _ cx0
  replace cxf0 : (w5.alloc (.cells #[.int .i64 0, .string ⟨#[]⟩, .string ⟨#[]⟩, .int .i64 0, .int .i64 0] 23)).frozen? ⟨w.heap.size, 0, none⟩ = false := frozen_al cx0 cxf0
  replace cx0 : (w5.alloc (.cells #[.int .i64 0, .string ⟨#[]⟩, .string ⟨#[]⟩, .int .i64 0, .int .i64 0] 23)).cell? ⟨w.heap.size, 0, none⟩ = some (.int .i64 k) := cell_al cx0
  replace cxf1 : (w5.alloc (.cells #[.int .i64 0, .string ⟨#[]⟩, .string ⟨#[]⟩, .int .i64 0, .int .i64 0] 23)).frozen? ⟨w.heap.size, 1, none⟩ = false := frozen_al cx1 cxf1
  replace cx1 : (w5.alloc (.cells #[.int .i64 0, .string ⟨#[]⟩, .string ⟨#[]⟩, .int .i64 0, .int .i64 0] 23)).cell? ⟨w.heap.size, 1, none⟩ = some (.string x1) := cell_al cx1
  replace cxf2 : (w5.alloc (.cells #[.int .i64 0, .string ⟨#[]⟩, .string ⟨#[]⟩, .int .i64 0, .int .i64 0] 23)).frozen? ⟨w.heap.size, 2, none⟩ = false := frozen_al cx2 cxf2
  replace cx2 : (w5.alloc (.cells #[.int .i64 0, .string ⟨#[]⟩, .string ⟨#[]⟩, .int .i64 0, .int .i64 0] 23)).cell? ⟨w.heap.size, 2, none⟩ = some (.string x2) := cell_al cx2
  replace cxf3 : (w5.alloc (.cells #[.int .i64 0, .string ⟨#[]⟩, .string ⟨#[]⟩, .int .i64 0, .int .i64 0] 23)).frozen? ⟨w.heap.size, 3, none⟩ = false := frozen_al cx3 cxf3
  replace cx3 : (w5.alloc (.cells #[.int .i64 0, .string ⟨#[]⟩, .string ⟨#[]⟩, .int .i64 0, .int .i64 0] 23)).cell? ⟨w.heap.size, 3, none⟩ = some (.int .i64 a) := cell_al cx3
  replace cxf4 : (w5.alloc (.cells #[.int .i64 0, .string ⟨#[]⟩, .string ⟨#[]⟩, .int .i64 0, .int .i64 0] 23)).frozen? ⟨w.heap.size, 4, none⟩ = false := frozen_al cx4 cxf4
  replace cx4 : (w5.alloc (.cells #[.int .i64 0, .string ⟨#[]⟩, .string ⟨#[]⟩, .int .i64 0, .int .i64 0] 23)).cell? ⟨w.heap.size, 4, none⟩ = some (.int .i64 b) := cell_al cx4
  have cy0 : (w5.alloc (.cells #[.int .i64 0, .string ⟨#[]⟩, .string ⟨#[]⟩, .int .i64 0, .int .i64 0] 23)).cell? ⟨w5.heap.size, 0, none⟩ = some (.int .i64 0) := by go_simp
  have cy1 : (w5.alloc (.cells #[.int .i64 0, .string ⟨#[]⟩, .string ⟨#[]⟩, .int .i64 0, .int .i64 0] 23)).cell? ⟨w5.heap.size, 1, none⟩ = some (.string ⟨#[]⟩) := by go_simp
  have cy2 : (w5.alloc (.cells #[.int .i64 0, .string ⟨#[]⟩, .string ⟨#[]⟩, .int .i64 0, .int .i64 0] 23)).cell? ⟨w5.heap.size, 2, none⟩ = some (.string ⟨#[]⟩) := by go_simp
  have cy3 : (w5.alloc (.cells #[.int .i64 0, .string ⟨#[]⟩, .string ⟨#[]⟩, .int .i64 0, .int .i64 0] 23)).cell? ⟨w5.heap.size, 3, none⟩ = some (.int .i64 0) := by go_simp
  have cy4 : (w5.alloc (.cells #[.int .i64 0, .string ⟨#[]⟩, .string ⟨#[]⟩, .int .i64 0, .int .i64 0] 23)).cell? ⟨w5.heap.size, 4, none⟩ = some (.int .i64 0) := by go_simp
  go_wp2_with fail
  replace HB := Lib.hid (show Below w.heap.size w (w5.alloc (.cells #[.int .i64 0, .string ⟨#[]⟩, .string ⟨#[]⟩, .int .i64 0, .int .i64 0] 23)) from below_alloc_l (HB.out))
  generalize hh3 : (w5.alloc (.cells #[.int .i64 0, .string ⟨#[]⟩, .string ⟨#[]⟩, .int .i64 0, .int .i64 0] 23)) = v3 at *
  clear hh3
  refine (HJN.out _ (HE.out.below HB.out)).mono ?_
  rintro e w6 ⟨rfl, hb⟩
  replace cxf0 := (hb.frozen (World.block_lt_of_cell? _ _ cx0)).trans cxf0
  replace cx0 := (hb.cell (World.block_lt_of_cell? _ _ cx0)).trans cx0
  replace cxf1 := (hb.frozen (World.block_lt_of_cell? _ _ cx1)).trans cxf1
  replace cx1 := (hb.cell (World.block_lt_of_cell? _ _ cx1)).trans cx1
  replace cxf2 := (hb.frozen (World.block_lt_of_cell? _ _ cx2)).trans cxf2
  replace cx2 := (hb.cell (World.block_lt_of_cell? _ _ cx2)).trans cx2
  replace cxf3 := (hb.frozen (World.block_lt_of_cell? _ _ cx3)).trans cxf3
  replace cx3 := (hb.cell (World.block_lt_of_cell? _ _ cx3)).trans cx3
  replace cxf4 := (hb.frozen (World.block_lt_of_cell? _ _ cx4)).trans cxf4
  replace cx4 := (hb.cell (World.block_lt_of_cell? _ _ cx4)).trans cx4
  replace cy0 := (hb.cell (World.block_lt_of_cell? _ _ cy0)).trans cy0
  replace cy1 := (hb.cell (World.block_lt_of_cell? _ _ cy1)).trans cy1
  replace cy2 := (hb.cell (World.block_lt_of_cell? _ _ cy2)).trans cy2
  replace cy3 := (hb.cell (World.block_lt_of_cell? _ _ cy3)).trans cy3
  replace cy4 := (hb.cell (World.block_lt_of_cell? _ _ cy4)).trans cy4
  replace HB := Lib.hid (HB.out.trans (hb.mono HB.out.size))
  clear hb
  have hlcz_cx := World.block_lt_of_cell? _ _ cx0
  have hlcz_cy := World.block_lt_of_cell? _ _ cy0
  replace cxf0 : (w6.alloc (.cells #[.int .i64 0, .string ⟨#[]⟩, .string ⟨#[]⟩, .int .i64 0, .int .i64 0] 23)).frozen? ⟨w.heap.size, 0, none⟩ = false := frozen_al cx0 cxf0
  replace cx0 : (w6.alloc (.cells #[.int .i64 0, .string ⟨#[]⟩, .string ⟨#[]⟩, .int .i64 0, .int .i64 0] 23)).cell? ⟨w.heap.size, 0, none⟩ = some (.int .i64 k) := cell_al cx0
  replace cxf1 : (w6.alloc (.cells #[.int .i64 0, .string ⟨#[]⟩, .string ⟨#[]⟩, .int .i64 0, .int .i64 0] 23)).frozen? ⟨w.heap.size, 1, none⟩ = false := frozen_al cx1 cxf1
  replace cx1 : (w6.alloc (.cells #[.int .i64 0, .string ⟨#[]⟩, .string ⟨#[]⟩, .int .i64 0, .int .i64 0] 23)).cell? ⟨w.heap.size, 1, none⟩ = some (.string x1) := cell_al cx1
  replace cxf2 : (w6.alloc (.cells #[.int .i64 0, .string ⟨#[]⟩, .string ⟨#[]⟩, .int .i64 0, .int .i64 0] 23)).frozen? ⟨w.heap.size, 2, none⟩ = false := frozen_al cx2 cxf2
  replace cx2 : (w6.alloc (.cells #[.int .i64 0, .string ⟨#[]⟩, .string ⟨#[]⟩, .int .i64 0, .int .i64 0] 23)).cell? ⟨w.heap.size, 2, none⟩ = some (.string x2) := cell_al cx2
  replace cxf3 : (w6.alloc (.cells #[.int .i64 0, .string ⟨#[]⟩, .string ⟨#[]⟩, .int .i64 0, .int .i64 0] 23)).frozen? ⟨w.heap.size, 3, none⟩ = false := frozen_al cx3 cxf3
  replace cx3 : (w6.alloc (.cells #[.int .i64 0, .string ⟨#[]⟩, .string ⟨#[]⟩, .int .i64 0, .int .i64 0] 23)).cell? ⟨w.heap.size, 3, none⟩ = some (.int .i64 a) := cell_al cx3
  replace cxf4 : (w6.alloc (.cells #[.int .i64 0, .string ⟨#[]⟩, .string ⟨#[]⟩, .int .i64 0, .int .i64 0] 23)).frozen? ⟨w.heap.size, 4, none⟩ = false := frozen_al cx4 cxf4
  replace cx4 : (w6.alloc (.cells #[.int .i64 0, .string ⟨#[]⟩, .string ⟨#[]⟩, .int .i64 0, .int .i64 0] 23)).cell? ⟨w.heap.size, 4, none⟩ = some (.int .i64 b) := cell_al cx4
  replace cy0 : (w6.alloc (.cells #[.int .i64 0, .string ⟨#[]⟩, .string ⟨#[]⟩, .int .i64 0, .int .i64 0] 23)).cell? ⟨w5.heap.size, 0, none⟩ = some (.int .i64 0) := cell_al cy0
  replace cy1 : (w6.alloc (.cells #[.int .i64 0, .string ⟨#[]⟩, .string ⟨#[]⟩, .int .i64 0, .int .i64 0] 23)).cell? ⟨w5.heap.size, 1, none⟩ = some (.string ⟨#[]⟩) := cell_al cy1
  replace cy2 : (w6.alloc (.cells #[.int .i64 0, .string ⟨#[]⟩, .string ⟨#[]⟩, .int .i64 0, .int .i64 0] 23)).cell? ⟨w5.heap.size, 2, none⟩ = some (.string ⟨#[]⟩) := cell_al cy2
  replace cy3 : (w6.alloc (.cells #[.int .i64 0, .string ⟨#[]⟩, .string ⟨#[]⟩, .int .i64 0, .int .i64 0] 23)).cell? ⟨w5.heap.size, 3, none⟩ = some (.int .i64 0) := cell_al cy3
  replace cy4 : (w6.alloc (.cells #[.int .i64 0, .string ⟨#[]⟩, .string ⟨#[]⟩, .int .i64 0, .int .i64 0] 23)).cell? ⟨w5.heap.size, 4, none⟩ = some (.int .i64 0) := cell_al cy4
  have cz0 : (w6.alloc (.cells #[.int .i64 0, .string ⟨#[]⟩, .string ⟨#[]⟩, .int .i64 0, .int .i64 0] 23)).cell? ⟨w6.heap.size, 0, none⟩ = some (.int .i64 0) := by go_simp
  have cz1 : (w6.alloc (.cells #[.int .i64 0, .string ⟨#[]⟩, .string ⟨#[]⟩, .int .i64 0, .int .i64 0] 23)).cell? ⟨w6.heap.size, 1, none⟩ = some (.string ⟨#[]⟩) := by go_simp
  have cz2 : (w6.alloc (.cells #[.int .i64 0, .string ⟨#[]⟩, .string ⟨#[]⟩, .int .i64 0, .int .i64 0] 23)).cell? ⟨w6.heap.size, 2, none⟩ = some (.string ⟨#[]⟩) := by go_simp
  have cz3 : (w6.alloc (.cells #[.int .i64 0, .string ⟨#[]⟩, .string ⟨#[]⟩, .int .i64 0, .int .i64 0] 23)).cell? ⟨w6.heap.size, 3, none⟩ = some (.int .i64 0) := by go_simp
  have cz4 : (w6.alloc (.cells #[.int .i64 0, .string ⟨#[]⟩, .string ⟨#[]⟩, .int .i64 0, .int .i64 0] 23)).cell? ⟨w6.heap.size, 4, none⟩ = some (.int .i64 0) := by go_simp
  go_wp2_with fail
  replace HB := Lib.hid (show Below w.heap.size w (w6.alloc (.cells #[.int .i64 0, .string ⟨#[]⟩, .string ⟨#[]⟩, .int .i64 0, .int .i64 0] 23)) from below_alloc_l (HB.out))
  generalize hh4 : (w6.alloc (.cells #[.int .i64 0, .string ⟨#[]⟩, .string ⟨#[]⟩, .int .i64 0, .int .i64 0] 23)) = v4 at *
  clear hh4
  refine (HPS.out _ (HE.out.below HB.out)).mono ?_
  rintro e w7 ⟨rfl, hb⟩
  replace cxf0 := (hb.frozen (World.block_lt_of_cell? _ _ cx0)).trans cxf0
  replace cx0 := (hb.cell (World.block_lt_of_cell? _ _ cx0)).trans cx0
  replace cxf1 := (hb.frozen (World.block_lt_of_cell? _ _ cx1)).trans cxf1
  replace cx1 := (hb.cell (World.block_lt_of_cell? _ _ cx1)).trans cx1
  replace cxf2 := (hb.frozen (World.block_lt_of_cell? _ _ cx2)).trans cxf2
  replace cx2 := (hb.cell (World.block_lt_of_cell? _ _ cx2)).trans cx2
  replace cxf3 := (hb.frozen (World.block_lt_of_cell? _ _ cx3)).trans cxf3
  replace cx3 := (hb.cell (World.block_lt_of_cell? _ _ cx3)).trans cx3
  replace cxf4 := (hb.frozen (World.block_lt_of_cell? _ _ cx4)).trans cxf4
  replace cx4 := (hb.cell (World.block_lt_of_cell? _ _ cx4)).trans cx4
  replace cy0 := (hb.cell (World.block_lt_of_cell? _ _ cy0)).trans cy0
  replace cy1 := (hb.cell (World.block_lt_of_cell? _ _ cy1)).trans cy1
  replace cy2 := (hb.cell (World.block_lt_of_cell? _ _ cy2)).trans cy2
  replace cy3 := (hb.cell (World.block_lt_of_cell? _ _ cy3)).trans cy3
  replace cy4 := (hb.cell (World.block_lt_of_cell? _ _ cy4)).trans cy4
  replace cz0 := (hb.cell (World.block_lt_of_cell? _ _ cz0)).trans cz0
  replace cz1 := (hb.cell (World.block_lt_of_cell? _ _ cz1)).trans cz1
  replace cz2 := (hb.cell (World.block_lt_of_cell? _ _ cz2)).trans cz2
  replace cz3 := (hb.cell (World.block_lt_of_cell? _ _ cz3)).trans cz3
  replace cz4 := (hb.cell (World.block_lt_of_cell? _ _ cz4)).trans cz4
  replace HB := Lib.hid (HB.out.trans (hb.mono HB.out.size))
  clear hb
  clear cy0 cy1 cy2 cy3 cy4
  clear cz0 cz1 cz2 cz3 cz4
  have hlcw_cx := World.block_lt_of_cell? _ _ cx0
  replace cxf0 : (w7.alloc (.cells #[.int .i64 pk, .string pn, .string ps, .int .i64 pa, .int .i64 pb] 23)).frozen? ⟨w.heap.size, 0, none⟩ = false := frozen_al cx0 cxf0
  replace cx0 : (w7.alloc (.cells #[.int .i64 pk, .string pn, .string ps, .int .i64 pa, .int .i64 pb] 23)).cell? ⟨w.heap.size, 0, none⟩ = some (.int .i64 k) := cell_al cx0
  replace cxf1 : (w7.alloc (.cells #[.int .i64 pk, .string pn, .string ps, .int .i64 pa, .int .i64 pb] 23)).frozen? ⟨w.heap.size, 1, none⟩ = false := frozen_al cx1 cxf1
  replace cx1 : (w7.alloc (.cells #[.int .i64 pk, .string pn, .string ps, .int .i64 pa, .int .i64 pb] 23)).cell? ⟨w.heap.size, 1, none⟩ = some (.string x1) := cell_al cx1
  replace cxf2 : (w7.alloc (.cells #[.int .i64 pk, .string pn, .string ps, .int .i64 pa, .int .i64 pb] 23)).frozen? ⟨w.heap.size, 2, none⟩ = false := frozen_al cx2 cxf2
  replace cx2 : (w7.alloc (.cells #[.int .i64 pk, .string pn, .string ps, .int .i64 pa, .int .i64 pb] 23)).cell? ⟨w.heap.size, 2, none⟩ = some (.string x2) := cell_al cx2
  replace cxf3 : (w7.alloc (.cells #[.int .i64 pk, .string pn, .string ps, .int .i64 pa, .int .i64 pb] 23)).frozen? ⟨w.heap.size, 3, none⟩ = false := frozen_al cx3 cxf3
  replace cx3 : (w7.alloc (.cells #[.int .i64 pk, .string pn, .string ps, .int .i64 pa, .int .i64 pb] 23)).cell? ⟨w.heap.size, 3, none⟩ = some (.int .i64 a) := cell_al cx3
  replace cxf4 : (w7.alloc (.cells #[.int .i64 pk, .string pn, .string ps, .int .i64 pa, .int .i64 pb] 23)).frozen? ⟨w.heap.size, 4, none⟩ = false := frozen_al cx4 cxf4
  replace cx4 : (w7.alloc (.cells #[.int .i64 pk, .string pn, .string ps, .int .i64 pa, .int .i64 pb] 23)).cell? ⟨w.heap.size, 4, none⟩ = some (.int .i64 b) := cell_al cx4
  have cw0 : (w7.alloc (.cells #[.int .i64 pk, .string pn, .string ps, .int .i64 pa, .int .i64 pb] 23)).cell? ⟨w7.heap.size, 0, none⟩ = some (.int .i64 pk) := by go_simp
  have cw1 : (w7.alloc (.cells #[.int .i64 pk, .string pn, .string ps, .int .i64 pa, .int .i64 pb] 23)).cell? ⟨w7.heap.size, 1, none⟩ = some (.string pn) := by go_simp
  have cw2 : (w7.alloc (.cells #[.int .i64 pk, .string pn, .string ps, .int .i64 pa, .int .i64 pb] 23)).cell? ⟨w7.heap.size, 2, none⟩ = some (.string ps) := by go_simp
  have cw3 : (w7.alloc (.cells #[.int .i64 pk, .string pn, .string ps, .int .i64 pa, .int .i64 pb] 23)).cell? ⟨w7.heap.size, 3, none⟩ = some (.int .i64 pa) := by go_simp
  have cw4 : (w7.alloc (.cells #[.int .i64 pk, .string pn, .string ps, .int .i64 pa, .int .i64 pb] 23)).cell? ⟨w7.heap.size, 4, none⟩ = some (.int .i64 pb) := by go_simp
  go_wp2_with fail
  replace HB := Lib.hid (show Below w.heap.size w (w7.alloc (.cells #[.int .i64 pk, .string pn, .string ps, .int .i64 pa, .int .i64 pb] 23)) from below_alloc_l (HB.out))
  generalize hh5 : (w7.alloc (.cells #[.int .i64 pk, .string pn, .string ps, .int .i64 pa, .int .i64 pb] 23)) = v5 at *
  clear hh5
  refine (HPW.out _ (HE.out.below HB.out)).mono ?_
  rintro e w8 ⟨rfl, hb⟩
  replace cxf0 := (hb.frozen (World.block_lt_of_cell? _ _ cx0)).trans cxf0
  replace cx0 := (hb.cell (World.block_lt_of_cell? _ _ cx0)).trans cx0
  replace cxf1 := (hb.frozen (World.block_lt_of_cell? _ _ cx1)).trans cxf1
  replace cx1 := (hb.cell (World.block_lt_of_cell? _ _ cx1)).trans cx1
  replace cxf2 := (hb.frozen (World.block_lt_of_cell? _ _ cx2)).trans cxf2
  replace cx2 := (hb.cell (World.block_lt_of_cell? _ _ cx2)).trans cx2
  replace cxf3 := (hb.frozen (World.block_lt_of_cell? _ _ cx3)).trans cxf3
  replace cx3 := (hb.cell (World.block_lt_of_cell? _ _ cx3)).trans cx3
  replace cxf4 := (hb.frozen (World.block_lt_of_cell? _ _ cx4)).trans cxf4
  replace cx4 := (hb.cell (World.block_lt_of_cell? _ _ cx4)).trans cx4
  replace cw0 := (hb.cell (World.block_lt_of_cell? _ _ cw0)).trans cw0
  replace cw1 := (hb.cell (World.block_lt_of_cell? _ _ cw1)).trans cw1
  replace cw2 := (hb.cell (World.block_lt_of_cell? _ _ cw2)).trans cw2
  replace cw3 := (hb.cell (World.block_lt_of_cell? _ _ cw3)).trans cw3
  replace cw4 := (hb.cell (World.block_lt_of_cell? _ _ cw4)).trans cw4
  replace HB := Lib.hid (HB.out.trans (hb.mono HB.out.size))
  clear hb
  go_wp2_with fail
  refine (HR.out _ (HE.out.below HB.out)).mono ?_
  rintro e w9 ⟨rfl, hb⟩
  replace cxf0 := (hb.frozen (World.block_lt_of_cell? _ _ cx0)).trans cxf0
  replace cx0 := (hb.cell (World.block_lt_of_cell? _ _ cx0)).trans cx0
  replace cxf1 := (hb.frozen (World.block_lt_of_cell? _ _ cx1)).trans cxf1
  replace cx1 := (hb.cell (World.block_lt_of_cell? _ _ cx1)).trans cx1
  replace cxf2 := (hb.frozen (World.block_lt_of_cell? _ _ cx2)).trans cxf2
  replace cx2 := (hb.cell (World.block_lt_of_cell? _ _ cx2)).trans cx2
  replace cxf3 := (hb.frozen (World.block_lt_of_cell? _ _ cx3)).trans cxf3
  replace cx3 := (hb.cell (World.block_lt_of_cell? _ _ cx3)).trans cx3
  replace cxf4 := (hb.frozen (World.block_lt_of_cell? _ _ cx4)).trans cxf4
  replace cx4 := (hb.cell (World.block_lt_of_cell? _ _ cx4)).trans cx4
  replace cw0 := (hb.cell (World.block_lt_of_cell? _ _ cw0)).trans cw0
  replace cw1 := (hb.cell (World.block_lt_of_cell? _ _ cw1)).trans cw1
  replace cw2 := (hb.cell (World.block_lt_of_cell? _ _ cw2)).trans cw2
  replace cw3 := (hb.cell (World.block_lt_of_cell? _ _ cw3)).trans cw3
  replace cw4 := (hb.cell (World.block_lt_of_cell? _ _ cw4)).trans cw4
  replace HB := Lib.hid (HB.out.trans (hb.mono HB.out.size))
  clear hb
  clear HCUT HLC HPR HHV HPT HJN HPS HPW HR HE
  go_wp2_with fail
  go_ret
  exact ⟨rfl, HB.out⟩

set_option maxRecDepth 100000 in
set_option maxHeartbeats 4000000 in
theorem back_10 (k a b pk pa pb : Int) (nd sv x1 x2 s sc s1 t1 u y1 pn ps tw : ByteArray) (w : World) (HE : Hid (EnvN w))
    (HCUT : Hid (∀ W, Calls Tryd.prog 9 #[.agg #[.int .i64 k, .string nd, .string sv, .int .i64 a, .int .i64 b]] W fun e w' => e = .returned (.agg #[.int .i64 k, .string x1, .string x2, .int .i64 a, .int .i64 b]) ∧ Below W.heap.size W w'))
    (HLC : Hid (∀ W, Calls Tryd.prog 10 #[.string s] W fun e w' => e = .returned (.string sc) ∧ W = w'))
    (HPR : Hid (∀ W, EnvN W → Calls Tryd.prog 15 #[.agg #[.int .i64 k, .string x1, .string x2, .int .i64 a, .int .i64 b]] W fun e w' => e = .returned (.tuple #[.string u, .int .i64 0]) ∧ Below W.heap.size W w'))
    (HHV : Hid (∀ W, EnvN W → Calls Tryd.prog 11 #[.agg #[.int .i64 k, .string x1, .string x2, .int .i64 a, .int .i64 b]] W fun e w' => e = .returned (.tuple #[.string s1, .string t1, .int .i64 0]) ∧ Below W.heap.size W w'))
    (HPT : Hid (∀ W, EnvN W → Calls Tryd.prog 17 #[.string u] W fun e w' => e = .returned (.tuple #[.agg #[.int .i64 k, .string x1, .string x2, .int .i64 a, .int .i64 b], .int .i64 0]) ∧ Below W.heap.size W w'))
    (HJN : Hid (∀ W, EnvN W → Calls Tryd.prog 13 #[.string s1, .string t1] W fun e w' => e = .returned (.tuple #[.agg #[.int .i64 k, .string x1, .string x2, .int .i64 a, .int .i64 b], .int .i64 0]) ∧ Below W.heap.size W w'))
    (HPS : Hid (∀ W, EnvN W → Calls Tryd.prog 17 #[.string sc] W fun e w' => e = .returned (.tuple #[.agg #[.int .i64 0, .string ⟨#[]⟩, .string ⟨#[]⟩, .int .i64 0, .int .i64 0], .int .i64 60]) ∧ Below W.heap.size W w'))
    (HPW : Hid (∀ W, EnvN W → Calls Tryd.prog 15 #[.agg #[.int .i64 0, .string ⟨#[]⟩, .string ⟨#[]⟩, .int .i64 0, .int .i64 0]] W fun e w' => e = .returned (.tuple #[.string tw, .int .i64 0]) ∧ Below W.heap.size W w'))
    (HR : Hid (∀ W, EnvN W → Calls Tryd.prog 21 #[.agg #[.int .i64 k, .string x1, .string x2, .int .i64 a, .int .i64 b]] W fun e w' => e = .returned (.bool true) ∧ Below W.heap.size W w'))
    (a1 : ∀ W : World, (Op.stringOp .add s1 ⟨#[58]⟩).run Tryd.prog W = .ok (.string y1) W)
    (a2 : ∀ W : World, (Op.stringOp .add y1 t1).run Tryd.prog W = .ok (.string u) W) :
    Calls Tryd.prog 4 #[.agg #[.int .i64 k, .string nd, .string sv, .int .i64 a, .int .i64 b], .string s] w fun e w' => e = .returned (.bool true) ∧ Below w.heap.size w w' := by
  have e1 : ∀ W : World, (binOp .neq 23 (.agg #[.int .i64 k, .string x1, .string x2, .int .i64 a, .int .i64 b]) (.agg #[.int .i64 k, .string x1, .string x2, .int .i64 a, .int .i64 b])).run Tryd.prog W = .ok (.bool false) W := fun W => by rw [nm_neq, nmE_iff.2 ⟨rfl, rfl, rfl, rfl, rfl⟩]; rfl
  have e3 : ∀ W : World, (binOp .eql 23 (.agg #[.int .i64 0, .string ⟨#[]⟩, .string ⟨#[]⟩, .int .i64 0, .int .i64 0]) (.agg #[.int .i64 0, .string ⟨#[]⟩, .string ⟨#[]⟩, .int .i64 0, .int .i64 0])).run Tryd.prog W = .ok (.bool true) W := fun W => by rw [nm_eql, nmE_iff.2 ⟨rfl, rfl, rfl, rfl, rfl⟩]
  go_enter Tryd.func4, Tryd.ntmps4
  go_wp2_with fail
  have cx0 : (w.alloc (.cells #[.int .i64 k, .string nd, .string sv, .int .i64 a, .int .i64 b] 23)).cell? ⟨w.heap.size, 0, none⟩ = some (.int .i64 k) := by go_simp
  have cxf0 : (w.alloc (.cells #[.int .i64 k, .string nd, .string sv, .int .i64 a, .int .i64 b] 23)).frozen? ⟨w.heap.size, 0, none⟩ = false := by go_simp
  have cx1 : (w.alloc (.cells #[.int .i64 k, .string nd, .string sv, .int .i64 a, .int .i64 b] 23)).cell? ⟨w.heap.size, 1, none⟩ = some (.string nd) := by go_simp
  have cxf1 : (w.alloc (.cells #[.int .i64 k, .string nd, .string sv, .int .i64 a, .int .i64 b] 23)).frozen? ⟨w.heap.size, 1, none⟩ = false := by go_simp
  have cx2 : (w.alloc (.cells #[.int .i64 k, .string nd, .string sv, .int .i64 a, .int .i64 b] 23)).cell? ⟨w.heap.size, 2, none⟩ = some (.string sv) := by go_simp
  have cxf2 : (w.alloc (.cells #[.int .i64 k, .string nd, .string sv, .int .i64 a, .int .i64 b] 23)).frozen? ⟨w.heap.size, 2, none⟩ = false := by go_simp
  have cx3 : (w.alloc (.cells #[.int .i64 k, .string nd, .string sv, .int .i64 a, .int .i64 b] 23)).cell? ⟨w.heap.size, 3, none⟩ = some (.int .i64 a) := by go_simp
  have cxf3 : (w.alloc (.cells #[.int .i64 k, .string nd, .string sv, .int .i64 a, .int .i64 b] 23)).frozen? ⟨w.heap.size, 3, none⟩ = false := by go_simp
  have cx4 : (w.alloc (.cells #[.int .i64 k, .string nd, .string sv, .int .i64 a, .int .i64 b] 23)).cell? ⟨w.heap.size, 4, none⟩ = some (.int .i64 b) := by go_simp
  have cxf4 : (w.alloc (.cells #[.int .i64 k, .string nd, .string sv, .int .i64 a, .int .i64 b] 23)).frozen? ⟨w.heap.size, 4, none⟩ = false := by go_simp
  have HB := Lib.hid (show Below w.heap.size w (w.alloc (.cells #[.int .i64 k, .string nd, .string sv, .int .i64 a, .int .i64 b] 23)) from below_alloc_l (Below.refl _ _))
  generalize hh1 : (w.alloc (.cells #[.int .i64 k, .string nd, .string sv, .int .i64 a, .int .i64 b] 23)) = v1 at *
  clear hh1
  refine (shown_any _ (HE.out.below HB.out)).mono ?_
  rintro e w1 ⟨rfl, hb⟩
  replace cxf0 := (hb.frozen (World.block_lt_of_cell? _ _ cx0)).trans cxf0
  replace cx0 := (hb.cell (World.block_lt_of_cell? _ _ cx0)).trans cx0
  replace cxf1 := (hb.frozen (World.block_lt_of_cell? _ _ cx1)).trans cxf1
  replace cx1 := (hb.cell (World.block_lt_of_cell? _ _ cx1)).trans cx1
  replace cxf2 := (hb.frozen (World.block_lt_of_cell? _ _ cx2)).trans cxf2
  replace cx2 := (hb.cell (World.block_lt_of_cell? _ _ cx2)).trans cx2
  replace cxf3 := (hb.frozen (World.block_lt_of_cell? _ _ cx3)).trans cxf3
  replace cx3 := (hb.cell (World.block_lt_of_cell? _ _ cx3)).trans cx3
  replace cxf4 := (hb.frozen (World.block_lt_of_cell? _ _ cx4)).trans cxf4
  replace cx4 := (hb.cell (World.block_lt_of_cell? _ _ cx4)).trans cx4
  replace HB := Lib.hid (HB.out.trans (hb.mono HB.out.size))
  clear hb
  go_wp2_with fail
  refine (HCUT.out _).mono ?_
  rintro e w2 ⟨rfl, hb⟩
  replace cxf0 := (hb.frozen (World.block_lt_of_cell? _ _ cx0)).trans cxf0
  replace cx0 := (hb.cell (World.block_lt_of_cell? _ _ cx0)).trans cx0
  replace cxf1 := (hb.frozen (World.block_lt_of_cell? _ _ cx1)).trans cxf1
  replace cx1 := (hb.cell (World.block_lt_of_cell? _ _ cx1)).trans cx1
  replace cxf2 := (hb.frozen (World.block_lt_of_cell? _ _ cx2)).trans cxf2
  replace cx2 := (hb.cell (World.block_lt_of_cell? _ _ cx2)).trans cx2
  replace cxf3 := (hb.frozen (World.block_lt_of_cell? _ _ cx3)).trans cxf3
  replace cx3 := (hb.cell (World.block_lt_of_cell? _ _ cx3)).trans cx3
  replace cxf4 := (hb.frozen (World.block_lt_of_cell? _ _ cx4)).trans cxf4
  replace cx4 := (hb.cell (World.block_lt_of_cell? _ _ cx4)).trans cx4
  replace HB := Lib.hid (HB.out.trans (hb.mono HB.out.size))
  clear hb
  go_wp2_with fail
  have k5 := set5 (v0 := .int .i64 k) (v1 := .string x1) (v2 := .string x2) (v3 := .int .i64 a) (v4 := .int .i64 b) cx0 cx1 cx2 cx3 cx4
  replace cxf0 : (((((w2.setCell ⟨w.heap.size, 0, none⟩ (.int .i64 k)).setCell ⟨w.heap.size, 1, none⟩ (.string x1)).setCell ⟨w.heap.size, 2, none⟩ (.string x2)).setCell ⟨w.heap.size, 3, none⟩ (.int .i64 a)).setCell ⟨w.heap.size, 4, none⟩ (.int .i64 b)).frozen? ⟨w.heap.size, 0, none⟩ = false := frozen_set5 cxf0
  replace cxf1 : (((((w2.setCell ⟨w.heap.size, 0, none⟩ (.int .i64 k)).setCell ⟨w.heap.size, 1, none⟩ (.string x1)).setCell ⟨w.heap.size, 2, none⟩ (.string x2)).setCell ⟨w.heap.size, 3, none⟩ (.int .i64 a)).setCell ⟨w.heap.size, 4, none⟩ (.int .i64 b)).frozen? ⟨w.heap.size, 1, none⟩ = false := frozen_set5 cxf1
  replace cxf2 : (((((w2.setCell ⟨w.heap.size, 0, none⟩ (.int .i64 k)).setCell ⟨w.heap.size, 1, none⟩ (.string x1)).setCell ⟨w.heap.size, 2, none⟩ (.string x2)).setCell ⟨w.heap.size, 3, none⟩ (.int .i64 a)).setCell ⟨w.heap.size, 4, none⟩ (.int .i64 b)).frozen? ⟨w.heap.size, 2, none⟩ = false := frozen_set5 cxf2
  replace cxf3 : (((((w2.setCell ⟨w.heap.size, 0, none⟩ (.int .i64 k)).setCell ⟨w.heap.size, 1, none⟩ (.string x1)).setCell ⟨w.heap.size, 2, none⟩ (.string x2)).setCell ⟨w.heap.size, 3, none⟩ (.int .i64 a)).setCell ⟨w.heap.size, 4, none⟩ (.int .i64 b)).frozen? ⟨w.heap.size, 3, none⟩ = false := frozen_set5 cxf3
  replace cxf4 : (((((w2.setCell ⟨w.heap.size, 0, none⟩ (.int .i64 k)).setCell ⟨w.heap.size, 1, none⟩ (.string x1)).setCell ⟨w.heap.size, 2, none⟩ (.string x2)).setCell ⟨w.heap.size, 3, none⟩ (.int .i64 a)).setCell ⟨w.heap.size, 4, none⟩ (.int .i64 b)).frozen? ⟨w.heap.size, 4, none⟩ = false := frozen_set5 cxf4
  clear cx0 cx1 cx2 cx3 cx4
  obtain ⟨cx0, cx1, cx2, cx3, cx4⟩ := k5
  have hge : w.heap.size ≤ w.heap.size := by omega
  replace HB := Lib.hid (show Below w.heap.size w (((((w2.setCell ⟨w.heap.size, 0, none⟩ (.int .i64 k)).setCell ⟨w.heap.size, 1, none⟩ (.string x1)).setCell ⟨w.heap.size, 2, none⟩ (.string x2)).setCell ⟨w.heap.size, 3, none⟩ (.int .i64 a)).setCell ⟨w.heap.size, 4, none⟩ (.int .i64 b)) from below_set5 (R := w.heap.size) (v0 := .int .i64 k) (v1 := .string x1) (v2 := .string x2) (v3 := .int .i64 a) (v4 := .int .i64 b) HB.out hge)
  generalize hh2 : (((((w2.setCell ⟨w.heap.size, 0, none⟩ (.int .i64 k)).setCell ⟨w.heap.size, 1, none⟩ (.string x1)).setCell ⟨w.heap.size, 2, none⟩ (.string x2)).setCell ⟨w.heap.size, 3, none⟩ (.int .i64 a)).setCell ⟨w.heap.size, 4, none⟩ (.int .i64 b)) = v2 at *
  clear hh2
  clear hge
  refine (HLC.out _).mono ?_
  rintro e wc ⟨rfl, rfl⟩
  go_wp2_with fail
  refine (HPR.out _ (HE.out.below HB.out)).mono ?_
  rintro e w3 ⟨rfl, hb⟩
  replace cxf0 := (hb.frozen (World.block_lt_of_cell? _ _ cx0)).trans cxf0
  replace cx0 := (hb.cell (World.block_lt_of_cell? _ _ cx0)).trans cx0
  replace cxf1 := (hb.frozen (World.block_lt_of_cell? _ _ cx1)).trans cxf1
  replace cx1 := (hb.cell (World.block_lt_of_cell? _ _ cx1)).trans cx1
  replace cxf2 := (hb.frozen (World.block_lt_of_cell? _ _ cx2)).trans cxf2
  replace cx2 := (hb.cell (World.block_lt_of_cell? _ _ cx2)).trans cx2
  replace cxf3 := (hb.frozen (World.block_lt_of_cell? _ _ cx3)).trans cxf3
  replace cx3 := (hb.cell (World.block_lt_of_cell? _ _ cx3)).trans cx3
  replace cxf4 := (hb.frozen (World.block_lt_of_cell? _ _ cx4)).trans cxf4
  replace cx4 := (hb.cell (World.block_lt_of_cell? _ _ cx4)).trans cx4
  replace HB := Lib.hid (HB.out.trans (hb.mono HB.out.size))
  clear hb
  go_wp2_with fail
  refine (HHV.out _ (HE.out.below HB.out)).mono ?_
  rintro e w4 ⟨rfl, hb⟩
  replace cxf0 := (hb.frozen (World.block_lt_of_cell? _ _ cx0)).trans cxf0
  replace cx0 := (hb.cell (World.block_lt_of_cell? _ _ cx0)).trans cx0
  replace cxf1 := (hb.frozen (World.block_lt_of_cell? _ _ cx1)).trans cxf1
  replace cx1 := (hb.cell (World.block_lt_of_cell? _ _ cx1)).trans cx1
  replace cxf2 := (hb.frozen (World.block_lt_of_cell? _ _ cx2)).trans cxf2
  replace cx2 := (hb.cell (World.block_lt_of_cell? _ _ cx2)).trans cx2
  replace cxf3 := (hb.frozen (World.block_lt_of_cell? _ _ cx3)).trans cxf3
  replace cx3 := (hb.cell (World.block_lt_of_cell? _ _ cx3)).trans cx3
  replace cxf4 := (hb.frozen (World.block_lt_of_cell? _ _ cx4)).trans cxf4
  replace cx4 := (hb.cell (World.block_lt_of_cell? _ _ cx4)).trans cx4
  replace HB := Lib.hid (HB.out.trans (hb.mono HB.out.size))
  clear hb
  go_wp2_with fail
  refine (HPT.out _ (HE.out.below HB.out)).mono ?_
  rintro e w5 ⟨rfl, hb⟩
  replace cxf0 := (hb.frozen (World.block_lt_of_cell? _ _ cx0)).trans cxf0
  replace cx0 := (hb.cell (World.block_lt_of_cell? _ _ cx0)).trans cx0
  replace cxf1 := (hb.frozen (World.block_lt_of_cell? _ _ cx1)).trans cxf1
  replace cx1 := (hb.cell (World.block_lt_of_cell? _ _ cx1)).trans cx1
  replace cxf2 := (hb.frozen (World.block_lt_of_cell? _ _ cx2)).trans cxf2
  replace cx2 := (hb.cell (World.block_lt_of_cell? _ _ cx2)).trans cx2
  replace cxf3 := (hb.frozen (World.block_lt_of_cell? _ _ cx3)).trans cxf3
  replace cx3 := (hb.cell (World.block_lt_of_cell? _ _ cx3)).trans cx3
  replace cxf4 := (hb.frozen (World.block_lt_of_cell? _ _ cx4)).trans cxf4
  replace cx4 := (hb.cell (World.block_lt_of_cell? _ _ cx4)).trans cx4
  replace HB := Lib.hid (HB.out.trans (hb.mono HB.out.size))
  clear hb
  have hlcy_cx := World.block_lt_of_cell? _ _ cx0
  replace cxf0 : (w5.alloc (.cells #[.int .i64 k, .string x1, .string x2, .int .i64 a, .int .i64 b] 23)).frozen? ⟨w.heap.size, 0, none⟩ = false := frozen_al cx0 cxf0
  replace cx0 : (w5.alloc (.cells #[.int .i64 k, .string x1, .string x2, .int .i64 a, .int .i64 b] 23)).cell? ⟨w.heap.size, 0, none⟩ = some (.int .i64 k) := cell_al cx0
  replace cxf1 : (w5.alloc (.cells #[.int .i64 k, .string x1, .string x2, .int .i64 a, .int .i64 b] 23)).frozen? ⟨w.heap.size, 1, none⟩ = false := frozen_al cx1 cxf1
  replace cx1 : (w5.alloc (.cells #[.int .i64 k, .string x1, .string x2, .int .i64 a, .int .i64 b] 23)).cell? ⟨w.heap.size, 1, none⟩ = some (.string x1) := cell_al cx1
  replace cxf2 : (w5.alloc (.cells #[.int .i64 k, .string x1, .string x2, .int .i64 a, .int .i64 b] 23)).frozen? ⟨w.heap.size, 2, none⟩ = false := frozen_al cx2 cxf2
  replace cx2 : (w5.alloc (.cells #[.int .i64 k, .string x1, .string x2, .int .i64 a, .int .i64 b] 23)).cell? ⟨w.heap.size, 2, none⟩ = some (.string x2) := cell_al cx2
  replace cxf3 : (w5.alloc (.cells #[.int .i64 k, .string x1, .string x2, .int .i64 a, .int .i64 b] 23)).frozen? ⟨w.heap.size, 3, none⟩ = false := frozen_al cx3 cxf3
  replace cx3 : (w5.alloc (.cells #[.int .i64 k, .string x1, .string x2, .int .i64 a, .int .i64 b] 23)).cell? ⟨w.heap.size, 3, none⟩ = some (.int .i64 a) := cell_al cx3
  replace cxf4 : (w5.alloc (.cells #[.int .i64 k, .string x1, .string x2, .int .i64 a, .int .i64 b] 23)).frozen? ⟨w.heap.size, 4, none⟩ = false := frozen_al cx4 cxf4
  replace cx4 : (w5.alloc (.cells #[.int .i64 k, .string x1, .string x2, .int .i64 a, .int .i64 b] 23)).cell? ⟨w.heap.size, 4, none⟩ = some (.int .i64 b) := cell_al cx4
  have cy0 : (w5.alloc (.cells #[.int .i64 k, .string x1, .string x2, .int .i64 a, .int .i64 b] 23)).cell? ⟨w5.heap.size, 0, none⟩ = some (.int .i64 k) := by go_simp
  have cy1 : (w5.alloc (.cells #[.int .i64 k, .string x1, .string x2, .int .i64 a, .int .i64 b] 23)).cell? ⟨w5.heap.size, 1, none⟩ = some (.string x1) := by go_simp
  have cy2 : (w5.alloc (.cells #[.int .i64 k, .string x1, .string x2, .int .i64 a, .int .i64 b] 23)).cell? ⟨w5.heap.size, 2, none⟩ = some (.string x2) := by go_simp
  have cy3 : (w5.alloc (.cells #[.int .i64 k, .string x1, .string x2, .int .i64 a, .int .i64 b] 23)).cell? ⟨w5.heap.size, 3, none⟩ = some (.int .i64 a) := by go_simp
  have cy4 : (w5.alloc (.cells #[.int .i64 k, .string x1, .string x2, .int .i64 a, .int .i64 b] 23)).cell? ⟨w5.heap.size, 4, none⟩ = some (.int .i64 b) := by go_simp
  go_wp2_with fail
  replace HB := Lib.hid (show Below w.heap.size w (w5.alloc (.cells #[.int .i64 k, .string x1, .string x2, .int .i64 a, .int .i64 b] 23)) from below_alloc_l (HB.out))
  generalize hh3 : (w5.alloc (.cells #[.int .i64 k, .string x1, .string x2, .int .i64 a, .int .i64 b] 23)) = v3 at *
  clear hh3
  refine (HJN.out _ (HE.out.below HB.out)).mono ?_
  rintro e w6 ⟨rfl, hb⟩
  replace cxf0 := (hb.frozen (World.block_lt_of_cell? _ _ cx0)).trans cxf0
  replace cx0 := (hb.cell (World.block_lt_of_cell? _ _ cx0)).trans cx0
  replace cxf1 := (hb.frozen (World.block_lt_of_cell? _ _ cx1)).trans cxf1
  replace cx1 := (hb.cell (World.block_lt_of_cell? _ _ cx1)).trans cx1
  replace cxf2 := (hb.frozen (World.block_lt_of_cell? _ _ cx2)).trans cxf2
  replace cx2 := (hb.cell (World.block_lt_of_cell? _ _ cx2)).trans cx2
  replace cxf3 := (hb.frozen (World.block_lt_of_cell? _ _ cx3)).trans cxf3
  replace cx3 := (hb.cell (World.block_lt_of_cell? _ _ cx3)).trans cx3
  replace cxf4 := (hb.frozen (World.block_lt_of_cell? _ _ cx4)).trans cxf4
  replace cx4 := (hb.cell (World.block_lt_of_cell? _ _ cx4)).trans cx4
  replace cy0 := (hb.cell (World.block_lt_of_cell? _ _ cy0)).trans cy0
  replace cy1 := (hb.cell (World.block_lt_of_cell? _ _ cy1)).trans cy1
  replace cy2 := (hb.cell (World.block_lt_of_cell? _ _ cy2)).trans cy2
  replace cy3 := (hb.cell (World.block_lt_of_cell? _ _ cy3)).trans cy3
  replace cy4 := (hb.cell (World.block_lt_of_cell? _ _ cy4)).trans cy4
  replace HB := Lib.hid (HB.out.trans (hb.mono HB.out.size))
  clear hb
  have hlcz_cx := World.block_lt_of_cell? _ _ cx0
  have hlcz_cy := World.block_lt_of_cell? _ _ cy0
  replace cxf0 : (w6.alloc (.cells #[.int .i64 k, .string x1, .string x2, .int .i64 a, .int .i64 b] 23)).frozen? ⟨w.heap.size, 0, none⟩ = false := frozen_al cx0 cxf0
  replace cx0 : (w6.alloc (.cells #[.int .i64 k, .string x1, .string x2, .int .i64 a, .int .i64 b] 23)).cell? ⟨w.heap.size, 0, none⟩ = some (.int .i64 k) := cell_al cx0
  replace cxf1 : (w6.alloc (.cells #[.int .i64 k, .string x1, .string x2, .int .i64 a, .int .i64 b] 23)).frozen? ⟨w.heap.size, 1, none⟩ = false := frozen_al cx1 cxf1
  replace cx1 : (w6.alloc (.cells #[.int .i64 k, .string x1, .string x2, .int .i64 a, .int .i64 b] 23)).cell? ⟨w.heap.size, 1, none⟩ = some (.string x1) := cell_al cx1
  replace cxf2 : (w6.alloc (.cells #[.int .i64 k, .string x1, .string x2, .int .i64 a, .int .i64 b] 23)).frozen? ⟨w.heap.size, 2, none⟩ = false := frozen_al cx2 cxf2
  replace cx2 : (w6.alloc (.cells #[.int .i64 k, .string x1, .string x2, .int .i64 a, .int .i64 b] 23)).cell? ⟨w.heap.size, 2, none⟩ = some (.string x2) := cell_al cx2
  replace cxf3 : (w6.alloc (.cells #[.int .i64 k, .string x1, .string x2, .int .i64 a, .int .i64 b] 23)).frozen? ⟨w.heap.size, 3, none⟩ = false := frozen_al cx3 cxf3
  replace cx3 : (w6.alloc (.cells #[.int .i64 k, .string x1, .string x2, .int .i64 a, .int .i64 b] 23)).cell? ⟨w.heap.size, 3, none⟩ = some (.int .i64 a) := cell_al cx3
  replace cxf4 : (w6.alloc (.cells #[.int .i64 k, .string x1, .string x2, .int .i64 a, .int .i64 b] 23)).frozen? ⟨w.heap.size, 4, none⟩ = false := frozen_al cx4 cxf4
  replace cx4 : (w6.alloc (.cells #[.int .i64 k, .string x1, .string x2, .int .i64 a, .int .i64 b] 23)).cell? ⟨w.heap.size, 4, none⟩ = some (.int .i64 b) := cell_al cx4
  replace cy0 : (w6.alloc (.cells #[.int .i64 k, .string x1, .string x2, .int .i64 a, .int .i64 b] 23)).cell? ⟨w5.heap.size, 0, none⟩ = some (.int .i64 k) := cell_al cy0
  replace cy1 : (w6.alloc (.cells #[.int .i64 k, .string x1, .string x2, .int .i64 a, .int .i64 b] 23)).cell? ⟨w5.heap.size, 1, none⟩ = some (.string x1) := cell_al cy1
  replace cy2 : (w6.alloc (.cells #[.int .i64 k, .string x1, .string x2, .int .i64 a, .int .i64 b] 23)).cell? ⟨w5.heap.size, 2, none⟩ = some (.string x2) := cell_al cy2
  replace cy3 : (w6.alloc (.cells #[.int .i64 k, .string x1, .string x2, .int .i64 a, .int .i64 b] 23)).cell? ⟨w5.heap.size, 3, none⟩ = some (.int .i64 a) := cell_al cy3
  replace cy4 : (w6.alloc (.cells #[.int .i64 k, .string x1, .string x2, .int .i64 a, .int .i64 b] 23)).cell? ⟨w5.heap.size, 4, none⟩ = some (.int .i64 b) := cell_al cy4
  have cz0 : (w6.alloc (.cells #[.int .i64 k, .string x1, .string x2, .int .i64 a, .int .i64 b] 23)).cell? ⟨w6.heap.size, 0, none⟩ = some (.int .i64 k) := by go_simp
  have cz1 : (w6.alloc (.cells #[.int .i64 k, .string x1, .string x2, .int .i64 a, .int .i64 b] 23)).cell? ⟨w6.heap.size, 1, none⟩ = some (.string x1) := by go_simp
  have cz2 : (w6.alloc (.cells #[.int .i64 k, .string x1, .string x2, .int .i64 a, .int .i64 b] 23)).cell? ⟨w6.heap.size, 2, none⟩ = some (.string x2) := by go_simp
  have cz3 : (w6.alloc (.cells #[.int .i64 k, .string x1, .string x2, .int .i64 a, .int .i64 b] 23)).cell? ⟨w6.heap.size, 3, none⟩ = some (.int .i64 a) := by go_simp
  have cz4 : (w6.alloc (.cells #[.int .i64 k, .string x1, .string x2, .int .i64 a, .int .i64 b] 23)).cell? ⟨w6.heap.size, 4, none⟩ = some (.int .i64 b) := by go_simp
  go_wp2_with fail
  replace HB := Lib.hid (show Below w.heap.size w (w6.alloc (.cells #[.int .i64 k, .string x1, .string x2, .int .i64 a, .int .i64 b] 23)) from below_alloc_l (HB.out))
  generalize hh4 : (w6.alloc (.cells #[.int .i64 k, .string x1, .string x2, .int .i64 a, .int .i64 b] 23)) = v4 at *
  clear hh4
  refine (HPS.out _ (HE.out.below HB.out)).mono ?_
  rintro e w7 ⟨rfl, hb⟩
  replace cxf0 := (hb.frozen (World.block_lt_of_cell? _ _ cx0)).trans cxf0
  replace cx0 := (hb.cell (World.block_lt_of_cell? _ _ cx0)).trans cx0
  replace cxf1 := (hb.frozen (World.block_lt_of_cell? _ _ cx1)).trans cxf1
  replace cx1 := (hb.cell (World.block_lt_of_cell? _ _ cx1)).trans cx1
  replace cxf2 := (hb.frozen (World.block_lt_of_cell? _ _ cx2)).trans cxf2
  replace cx2 := (hb.cell (World.block_lt_of_cell? _ _ cx2)).trans cx2
  replace cxf3 := (hb.frozen (World.block_lt_of_cell? _ _ cx3)).trans cxf3
  replace cx3 := (hb.cell (World.block_lt_of_cell? _ _ cx3)).trans cx3
  replace cxf4 := (hb.frozen (World.block_lt_of_cell? _ _ cx4)).trans cxf4
  replace cx4 := (hb.cell (World.block_lt_of_cell? _ _ cx4)).trans cx4
  replace cy0 := (hb.cell (World.block_lt_of_cell? _ _ cy0)).trans cy0
  replace cy1 := (hb.cell (World.block_lt_of_cell? _ _ cy1)).trans cy1
  replace cy2 := (hb.cell (World.block_lt_of_cell? _ _ cy2)).trans cy2
  replace cy3 := (hb.cell (World.block_lt_of_cell? _ _ cy3)).trans cy3
  replace cy4 := (hb.cell (World.block_lt_of_cell? _ _ cy4)).trans cy4
  replace cz0 := (hb.cell (World.block_lt_of_cell? _ _ cz0)).trans cz0
  replace cz1 := (hb.cell (World.block_lt_of_cell? _ _ cz1)).trans cz1
  replace cz2 := (hb.cell (World.block_lt_of_cell? _ _ cz2)).trans cz2
  replace cz3 := (hb.cell (World.block_lt_of_cell? _ _ cz3)).trans cz3
  replace cz4 := (hb.cell (World.block_lt_of_cell? _ _ cz4)).trans cz4
  replace HB := Lib.hid (HB.out.trans (hb.mono HB.out.size))
  clear hb
  clear cy0 cy1 cy2 cy3 cy4
  clear cz0 cz1 cz2 cz3 cz4
  have hlcw_cx := World.block_lt_of_cell? _ _ cx0
  replace cxf0 : (w7.alloc (.cells #[.int .i64 0, .string ⟨#[]⟩, .string ⟨#[]⟩, .int .i64 0, .int .i64 0] 23)).frozen? ⟨w.heap.size, 0, none⟩ = false := frozen_al cx0 cxf0
  replace cx0 : (w7.alloc (.cells #[.int .i64 0, .string ⟨#[]⟩, .string ⟨#[]⟩, .int .i64 0, .int .i64 0] 23)).cell? ⟨w.heap.size, 0, none⟩ = some (.int .i64 k) := cell_al cx0
  replace cxf1 : (w7.alloc (.cells #[.int .i64 0, .string ⟨#[]⟩, .string ⟨#[]⟩, .int .i64 0, .int .i64 0] 23)).frozen? ⟨w.heap.size, 1, none⟩ = false := frozen_al cx1 cxf1
  replace cx1 : (w7.alloc (.cells #[.int .i64 0, .string ⟨#[]⟩, .string ⟨#[]⟩, .int .i64 0, .int .i64 0] 23)).cell? ⟨w.heap.size, 1, none⟩ = some (.string x1) := cell_al cx1
  replace cxf2 : (w7.alloc (.cells #[.int .i64 0, .string ⟨#[]⟩, .string ⟨#[]⟩, .int .i64 0, .int .i64 0] 23)).frozen? ⟨w.heap.size, 2, none⟩ = false := frozen_al cx2 cxf2
  replace cx2 : (w7.alloc (.cells #[.int .i64 0, .string ⟨#[]⟩, .string ⟨#[]⟩, .int .i64 0, .int .i64 0] 23)).cell? ⟨w.heap.size, 2, none⟩ = some (.string x2) := cell_al cx2
  replace cxf3 : (w7.alloc (.cells #[.int .i64 0, .string ⟨#[]⟩, .string ⟨#[]⟩, .int .i64 0, .int .i64 0] 23)).frozen? ⟨w.heap.size, 3, none⟩ = false := frozen_al cx3 cxf3
  replace cx3 : (w7.alloc (.cells #[.int .i64 0, .string ⟨#[]⟩, .string ⟨#[]⟩, .int .i64 0, .int .i64 0] 23)).cell? ⟨w.heap.size, 3, none⟩ = some (.int .i64 a) := cell_al cx3
  replace cxf4 : (w7.alloc (.cells #[.int .i64 0, .string ⟨#[]⟩, .string ⟨#[]⟩, .int .i64 0, .int .i64 0] 23)).frozen? ⟨w.heap.size, 4, none⟩ = false := frozen_al cx4 cxf4
  replace cx4 : (w7.alloc (.cells #[.int .i64 0, .string ⟨#[]⟩, .string ⟨#[]⟩, .int .i64 0, .int .i64 0] 23)).cell? ⟨w.heap.size, 4, none⟩ = some (.int .i64 b) := cell_al cx4
  have cw0 : (w7.alloc (.cells #[.int .i64 0, .string ⟨#[]⟩, .string ⟨#[]⟩, .int .i64 0, .int .i64 0] 23)).cell? ⟨w7.heap.size, 0, none⟩ = some (.int .i64 0) := by go_simp
  have cw1 : (w7.alloc (.cells #[.int .i64 0, .string ⟨#[]⟩, .string ⟨#[]⟩, .int .i64 0, .int .i64 0] 23)).cell? ⟨w7.heap.size, 1, none⟩ = some (.string ⟨#[]⟩) := by go_simp
  have cw2 : (w7.alloc (.cells #[.int .i64 0, .string ⟨#[]⟩, .string ⟨#[]⟩, .int .i64 0, .int .i64 0] 23)).cell? ⟨w7.heap.size, 2, none⟩ = some (.string ⟨#[]⟩) := by go_simp
  have cw3 : (w7.alloc (.cells #[.int .i64 0, .string ⟨#[]⟩, .string ⟨#[]⟩, .int .i64 0, .int .i64 0] 23)).cell? ⟨w7.heap.size, 3, none⟩ = some (.int .i64 0) := by go_simp
  have cw4 : (w7.alloc (.cells #[.int .i64 0, .string ⟨#[]⟩, .string ⟨#[]⟩, .int .i64 0, .int .i64 0] 23)).cell? ⟨w7.heap.size, 4, none⟩ = some (.int .i64 0) := by go_simp
  go_wp2_with fail
  replace HB := Lib.hid (show Below w.heap.size w (w7.alloc (.cells #[.int .i64 0, .string ⟨#[]⟩, .string ⟨#[]⟩, .int .i64 0, .int .i64 0] 23)) from below_alloc_l (HB.out))
  generalize hh5 : (w7.alloc (.cells #[.int .i64 0, .string ⟨#[]⟩, .string ⟨#[]⟩, .int .i64 0, .int .i64 0] 23)) = v5 at *
  clear hh5
  refine (HPW.out _ (HE.out.below HB.out)).mono ?_
  rintro e w8 ⟨rfl, hb⟩
  replace cxf0 := (hb.frozen (World.block_lt_of_cell? _ _ cx0)).trans cxf0
  replace cx0 := (hb.cell (World.block_lt_of_cell? _ _ cx0)).trans cx0
  replace cxf1 := (hb.frozen (World.block_lt_of_cell? _ _ cx1)).trans cxf1
  replace cx1 := (hb.cell (World.block_lt_of_cell? _ _ cx1)).trans cx1
  replace cxf2 := (hb.frozen (World.block_lt_of_cell? _ _ cx2)).trans cxf2
  replace cx2 := (hb.cell (World.block_lt_of_cell? _ _ cx2)).trans cx2
  replace cxf3 := (hb.frozen (World.block_lt_of_cell? _ _ cx3)).trans cxf3
  replace cx3 := (hb.cell (World.block_lt_of_cell? _ _ cx3)).trans cx3
  replace cxf4 := (hb.frozen (World.block_lt_of_cell? _ _ cx4)).trans cxf4
  replace cx4 := (hb.cell (World.block_lt_of_cell? _ _ cx4)).trans cx4
  replace cw0 := (hb.cell (World.block_lt_of_cell? _ _ cw0)).trans cw0
  replace cw1 := (hb.cell (World.block_lt_of_cell? _ _ cw1)).trans cw1
  replace cw2 := (hb.cell (World.block_lt_of_cell? _ _ cw2)).trans cw2
  replace cw3 := (hb.cell (World.block_lt_of_cell? _ _ cw3)).trans cw3
  replace cw4 := (hb.cell (World.block_lt_of_cell? _ _ cw4)).trans cw4
  replace HB := Lib.hid (HB.out.trans (hb.mono HB.out.size))
  clear hb
  go_wp2_with fail
  refine (HR.out _ (HE.out.below HB.out)).mono ?_
  rintro e w9 ⟨rfl, hb⟩
  replace cxf0 := (hb.frozen (World.block_lt_of_cell? _ _ cx0)).trans cxf0
  replace cx0 := (hb.cell (World.block_lt_of_cell? _ _ cx0)).trans cx0
  replace cxf1 := (hb.frozen (World.block_lt_of_cell? _ _ cx1)).trans cxf1
  replace cx1 := (hb.cell (World.block_lt_of_cell? _ _ cx1)).trans cx1
  replace cxf2 := (hb.frozen (World.block_lt_of_cell? _ _ cx2)).trans cxf2
  replace cx2 := (hb.cell (World.block_lt_of_cell? _ _ cx2)).trans cx2
  replace cxf3 := (hb.frozen (World.block_lt_of_cell? _ _ cx3)).trans cxf3
  replace cx3 := (hb.cell (World.block_lt_of_cell? _ _ cx3)).trans cx3
  replace cxf4 := (hb.frozen (World.block_lt_of_cell? _ _ cx4)).trans cxf4
  replace cx4 := (hb.cell (World.block_lt_of_cell? _ _ cx4)).trans cx4
  replace cw0 := (hb.cell (World.block_lt_of_cell? _ _ cw0)).trans cw0
  replace cw1 := (hb.cell (World.block_lt_of_cell? _ _ cw1)).trans cw1
  replace cw2 := (hb.cell (World.block_lt_of_cell? _ _ cw2)).trans cw2
  replace cw3 := (hb.cell (World.block_lt_of_cell? _ _ cw3)).trans cw3
  replace cw4 := (hb.cell (World.block_lt_of_cell? _ _ cw4)).trans cw4
  replace HB := Lib.hid (HB.out.trans (hb.mono HB.out.size))
  clear hb
  clear HCUT HLC HPR HHV HPT HJN HPS HPW HR HE
  go_wp2_with fail
  go_ret
  exact ⟨rfl, HB.out⟩

set_option maxRecDepth 100000 in
set_option maxHeartbeats 4000000 in
theorem back_11 (k a b pk pa pb : Int) (nd sv x1 x2 s sc s1 t1 u y1 pn ps tw : ByteArray) (w : World) (HE : Hid (EnvN w))
    (HCUT : Hid (∀ W, Calls Tryd.prog 9 #[.agg #[.int .i64 k, .string nd, .string sv, .int .i64 a, .int .i64 b]] W fun e w' => e = .returned (.agg #[.int .i64 k, .string x1, .string x2, .int .i64 a, .int .i64 b]) ∧ Below W.heap.size W w'))
    (HLC : Hid (∀ W, Calls Tryd.prog 10 #[.string s] W fun e w' => e = .returned (.string sc) ∧ W = w'))
    (HPR : Hid (∀ W, EnvN W → Calls Tryd.prog 15 #[.agg #[.int .i64 k, .string x1, .string x2, .int .i64 a, .int .i64 b]] W fun e w' => e = .returned (.tuple #[.string u, .int .i64 0]) ∧ Below W.heap.size W w'))
    (HHV : Hid (∀ W, EnvN W → Calls Tryd.prog 11 #[.agg #[.int .i64 k, .string x1, .string x2, .int .i64 a, .int .i64 b]] W fun e w' => e = .returned (.tuple #[.string s1, .string t1, .int .i64 0]) ∧ Below W.heap.size W w'))
    (HPT : Hid (∀ W, EnvN W → Calls Tryd.prog 17 #[.string u] W fun e w' => e = .returned (.tuple #[.agg #[.int .i64 k, .string x1, .string x2, .int .i64 a, .int .i64 b], .int .i64 0]) ∧ Below W.heap.size W w'))
    (HJN : Hid (∀ W, EnvN W → Calls Tryd.prog 13 #[.string s1, .string t1] W fun e w' => e = .returned (.tuple #[.agg #[.int .i64 k, .string x1, .string x2, .int .i64 a, .int .i64 b], .int .i64 0]) ∧ Below W.heap.size W w'))
    (HPS : Hid (∀ W, EnvN W → Calls Tryd.prog 17 #[.string sc] W fun e w' => e = .returned (.tuple #[.agg #[.int .i64 pk, .string pn, .string ps, .int .i64 pa, .int .i64 pb], .int .i64 0]) ∧ Below W.heap.size W w'))
    (HPW : Hid (∀ W, EnvN W → Calls Tryd.prog 15 #[.agg #[.int .i64 pk, .string pn, .string ps, .int .i64 pa, .int .i64 pb]] W fun e w' => e = .returned (.tuple #[.string sc, .int .i64 0]) ∧ Below W.heap.size W w'))
    (HR : Hid (∀ W, EnvN W → Calls Tryd.prog 21 #[.agg #[.int .i64 k, .string x1, .string x2, .int .i64 a, .int .i64 b]] W fun e w' => e = .returned (.bool true) ∧ Below W.heap.size W w'))
    (a1 : ∀ W : World, (Op.stringOp .add s1 ⟨#[58]⟩).run Tryd.prog W = .ok (.string y1) W)
    (a2 : ∀ W : World, (Op.stringOp .add y1 t1).run Tryd.prog W = .ok (.string u) W) :
    Calls Tryd.prog 4 #[.agg #[.int .i64 k, .string nd, .string sv, .int .i64 a, .int .i64 b], .string s] w fun e w' => e = .returned (.bool true) ∧ Below w.heap.size w w' := by
  have e1 : ∀ W : World, (binOp .neq 23 (.agg #[.int .i64 k, .string x1, .string x2, .int .i64 a, .int .i64 b]) (.agg #[.int .i64 k, .string x1, .string x2, .int .i64 a, .int .i64 b])).run Tryd.prog W = .ok (.bool false) W := fun W => by rw [nm_neq, nmE_iff.2 ⟨rfl, rfl, rfl, rfl, rfl⟩]; rfl
  have e3 : ∀ W : World, (binOp .eql 23 (.agg #[.int .i64 0, .string ⟨#[]⟩, .string ⟨#[]⟩, .int .i64 0, .int .i64 0]) (.agg #[.int .i64 0, .string ⟨#[]⟩, .string ⟨#[]⟩, .int .i64 0, .int .i64 0])).run Tryd.prog W = .ok (.bool true) W := fun W => by rw [nm_eql, nmE_iff.2 ⟨rfl, rfl, rfl, rfl, rfl⟩]
  go_enter Tryd.func4, Tryd.ntmps4
  go_wp2_with fail
  have cx0 : (w.alloc (.cells #[.int .i64 k, .string nd, .string sv, .int .i64 a, .int .i64 b] 23)).cell? ⟨w.heap.size, 0, none⟩ = some (.int .i64 k) := by go_simp
  have cxf0 : (w.alloc (.cells #[.int .i64 k, .string nd, .string sv, .int .i64 a, .int .i64 b] 23)).frozen? ⟨w.heap.size, 0, none⟩ = false := by go_simp
  have cx1 : (w.alloc (.cells #[.int .i64 k, .string nd, .string sv, .int .i64 a, .int .i64 b] 23)).cell? ⟨w.heap.size, 1, none⟩ = some (.string nd) := by go_simp
  have cxf1 : (w.alloc (.cells #[.int .i64 k, .string nd, .string sv, .int .i64 a, .int .i64 b] 23)).frozen? ⟨w.heap.size, 1, none⟩ = false := by go_simp
  have cx2 : (w.alloc (.cells #[.int .i64 k, .string nd, .string sv, .int .i64 a, .int .i64 b] 23)).cell? ⟨w.heap.size, 2, none⟩ = some (.string sv) := by go_simp
  have cxf2 : (w.alloc (.cells #[.int .i64 k, .string nd, .string sv, .int .i64 a, .int .i64 b] 23)).frozen? ⟨w.heap.size, 2, none⟩ = false := by go_simp
  have cx3 : (w.alloc (.cells #[.int .i64 k, .string nd, .string sv, .int .i64 a, .int .i64 b] 23)).cell? ⟨w.heap.size, 3, none⟩ = some (.int .i64 a) := by go_simp
  have cxf3 : (w.alloc (.cells #[.int .i64 k, .string nd, .string sv, .int .i64 a, .int .i64 b] 23)).frozen? ⟨w.heap.size, 3, none⟩ = false := by go_simp
  have cx4 : (w.alloc (.cells #[.int .i64 k, .string nd, .string sv, .int .i64 a, .int .i64 b] 23)).cell? ⟨w.heap.size, 4, none⟩ = some (.int .i64 b) := by go_simp
  have cxf4 : (w.alloc (.cells #[.int .i64 k, .string nd, .string sv, .int .i64 a, .int .i64 b] 23)).frozen? ⟨w.heap.size, 4, none⟩ = false := by go_simp
  have HB := Lib.hid (show Below w.heap.size w (w.alloc (.cells #[.int .i64 k, .string nd, .string sv, .int .i64 a, .int .i64 b] 23)) from below_alloc_l (Below.refl _ _))
  generalize hh1 : (w.alloc (.cells #[.int .i64 k, .string nd, .string sv, .int .i64 a, .int .i64 b] 23)) = v1 at *
  clear hh1
  refine (shown_any _ (HE.out.below HB.out)).mono ?_
  rintro e w1 ⟨rfl, hb⟩
  replace cxf0 := (hb.frozen (World.block_lt_of_cell? _ _ cx0)).trans cxf0
  replace cx0 := (hb.cell (World.block_lt_of_cell? _ _ cx0)).trans cx0
  replace cxf1 := (hb.frozen (World.block_lt_of_cell? _ _ cx1)).trans cxf1
  replace cx1 := (hb.cell (World.block_lt_of_cell? _ _ cx1)).trans cx1
  replace cxf2 := (hb.frozen (World.block_lt_of_cell? _ _ cx2)).trans cxf2
  replace cx2 := (hb.cell (World.block_lt_of_cell? _ _ cx2)).trans cx2
  replace cxf3 := (hb.frozen (World.block_lt_of_cell? _ _ cx3)).trans cxf3
  replace cx3 := (hb.cell (World.block_lt_of_cell? _ _ cx3)).trans cx3
  replace cxf4 := (hb.frozen (World.block_lt_of_cell? _ _ cx4)).trans cxf4
  replace cx4 := (hb.cell (World.block_lt_of_cell? _ _ cx4)).trans cx4
  replace HB := Lib.hid (HB.out.trans (hb.mono HB.out.size))
  clear hb
  go_wp2_with fail
  refine (HCUT.out _).mono ?_
  rintro e w2 ⟨rfl, hb⟩
  replace cxf0 := (hb.frozen (World.block_lt_of_cell? _ _ cx0)).trans cxf0
  replace cx0 := (hb.cell (World.block_lt_of_cell? _ _ cx0)).trans cx0
  replace cxf1 := (hb.frozen (World.block_lt_of_cell? _ _ cx1)).trans cxf1
  replace cx1 := (hb.cell (World.block_lt_of_cell? _ _ cx1)).trans cx1
  replace cxf2 := (hb.frozen (World.block_lt_of_cell? _ _ cx2)).trans cxf2
  replace cx2 := (hb.cell (World.block_lt_of_cell? _ _ cx2)).trans cx2
  replace cxf3 := (hb.frozen (World.block_lt_of_cell? _ _ cx3)).trans cxf3
  replace cx3 := (hb.cell (World.block_lt_of_cell? _ _ cx3)).trans cx3
  replace cxf4 := (hb.frozen (World.block_lt_of_cell? _ _ cx4)).trans cxf4
  replace cx4 := (hb.cell (World.block_lt_of_cell? _ _ cx4)).trans cx4
  replace HB := Lib.hid (HB.out.trans (hb.mono HB.out.size))
  clear hb
  go_wp2_with fail
  have k5 := set5 (v0 := .int .i64 k) (v1 := .string x1) (v2 := .string x2) (v3 := .int .i64 a) (v4 := .int .i64 b) cx0 cx1 cx2 cx3 cx4
  replace cxf0 : (((((w2.setCell ⟨w.heap.size, 0, none⟩ (.int .i64 k)).setCell ⟨w.heap.size, 1, none⟩ (.string x1)).setCell ⟨w.heap.size, 2, none⟩ (.string x2)).setCell ⟨w.heap.size, 3, none⟩ (.int .i64 a)).setCell ⟨w.heap.size, 4, none⟩ (.int .i64 b)).frozen? ⟨w.heap.size, 0, none⟩ = false := frozen_set5 cxf0
  replace cxf1 : (((((w2.setCell ⟨w.heap.size, 0, none⟩ (.int .i64 k)).setCell ⟨w.heap.size, 1, none⟩ (.string x1)).setCell ⟨w.heap.size, 2, none⟩ (.string x2)).setCell ⟨w.heap.size, 3, none⟩ (.int .i64 a)).setCell ⟨w.heap.size, 4, none⟩ (.int .i64 b)).frozen? ⟨w.heap.size, 1, none⟩ = false := frozen_set5 cxf1
  replace cxf2 : (((((w2.setCell ⟨w.heap.size, 0, none⟩ (.int .i64 k)).setCell ⟨w.heap.size, 1, none⟩ (.string x1)).setCell ⟨w.heap.size, 2, none⟩ (.string x2)).setCell ⟨w.heap.size, 3, none⟩ (.int .i64 a)).setCell ⟨w.heap.size, 4, none⟩ (.int .i64 b)).frozen? ⟨w.heap.size, 2, none⟩ = false := frozen_set5 cxf2
  replace cxf3 : (((((w2.setCell ⟨w.heap.size, 0, none⟩ (.int .i64 k)).setCell ⟨w.heap.size, 1, none⟩ (.string x1)).setCell ⟨w.heap.size, 2, none⟩ (.string x2)).setCell ⟨w.heap.size, 3, none⟩ (.int .i64 a)).setCell ⟨w.heap.size, 4, none⟩ (.int .i64 b)).frozen? ⟨w.heap.size, 3, none⟩ = false := frozen_set5 cxf3
  replace cxf4 : (((((w2.setCell ⟨w.heap.size, 0, none⟩ (.int .i64 k)).setCell ⟨w.heap.size, 1, none⟩ (.string x1)).setCell ⟨w.heap.size, 2, none⟩ (.string x2)).setCell ⟨w.heap.size, 3, none⟩ (.int .i64 a)).setCell ⟨w.heap.size, 4, none⟩ (.int .i64 b)).frozen? ⟨w.heap.size, 4, none⟩ = false := frozen_set5 cxf4
  clear cx0 cx1 cx2 cx3 cx4
  obtain ⟨cx0, cx1, cx2, cx3, cx4⟩ := k5
  have hge : w.heap.size ≤ w.heap.size := by omega
  replace HB := Lib.hid (show Below w.heap.size w (((((w2.setCell ⟨w.heap.size, 0, none⟩ (.int .i64 k)).setCell ⟨w.heap.size, 1, none⟩ (.string x1)).setCell ⟨w.heap.size, 2, none⟩ (.string x2)).setCell ⟨w.heap.size, 3, none⟩ (.int .i64 a)).setCell ⟨w.heap.size, 4, none⟩ (.int .i64 b)) from below_set5 (R := w.heap.size) (v0 := .int .i64 k) (v1 := .string x1) (v2 := .string x2) (v3 := .int .i64 a) (v4 := .int .i64 b) HB.out hge)
  generalize hh2 : (((((w2.setCell ⟨w.heap.size, 0, none⟩ (.int .i64 k)).setCell ⟨w.heap.size, 1, none⟩ (.string x1)).setCell ⟨w.heap.size, 2, none⟩ (.string x2)).setCell ⟨w.heap.size, 3, none⟩ (.int .i64 a)).setCell ⟨w.heap.size, 4, none⟩ (.int .i64 b)) = v2 at *
  clear hh2
  clear hge
  refine (HLC.out _).mono ?_
  rintro e wc ⟨rfl, rfl⟩
  go_wp2_with fail
  refine (HPR.out _ (HE.out.below HB.out)).mono ?_
  rintro e w3 ⟨rfl, hb⟩
  replace cxf0 := (hb.frozen (World.block_lt_of_cell? _ _ cx0)).trans cxf0
  replace cx0 := (hb.cell (World.block_lt_of_cell? _ _ cx0)).trans cx0
  replace cxf1 := (hb.frozen (World.block_lt_of_cell? _ _ cx1)).trans cxf1
  replace cx1 := (hb.cell (World.block_lt_of_cell? _ _ cx1)).trans cx1
  replace cxf2 := (hb.frozen (World.block_lt_of_cell? _ _ cx2)).trans cxf2
  replace cx2 := (hb.cell (World.block_lt_of_cell? _ _ cx2)).trans cx2
  replace cxf3 := (hb.frozen (World.block_lt_of_cell? _ _ cx3)).trans cxf3
  replace cx3 := (hb.cell (World.block_lt_of_cell? _ _ cx3)).trans cx3
  replace cxf4 := (hb.frozen (World.block_lt_of_cell? _ _ cx4)).trans cxf4
  replace cx4 := (hb.cell (World.block_lt_of_cell? _ _ cx4)).trans cx4
  replace HB := Lib.hid (HB.out.trans (hb.mono HB.out.size))
  clear hb
  go_wp2_with fail
  refine (HHV.out _ (HE.out.below HB.out)).mono ?_
  rintro e w4 ⟨rfl, hb⟩
  replace cxf0 := (hb.frozen (World.block_lt_of_cell? _ _ cx0)).trans cxf0
  replace cx0 := (hb.cell (World.block_lt_of_cell? _ _ cx0)).trans cx0
  replace cxf1 := (hb.frozen (World.block_lt_of_cell? _ _ cx1)).trans cxf1
  replace cx1 := (hb.cell (World.block_lt_of_cell? _ _ cx1)).trans cx1
  replace cxf2 := (hb.frozen (World.block_lt_of_cell? _ _ cx2)).trans cxf2
  replace cx2 := (hb.cell (World.block_lt_of_cell? _ _ cx2)).trans cx2
  replace cxf3 := (hb.frozen (World.block_lt_of_cell? _ _ cx3)).trans cxf3
  replace cx3 := (hb.cell (World.block_lt_of_cell? _ _ cx3)).trans cx3
  replace cxf4 := (hb.frozen (World.block_lt_of_cell? _ _ cx4)).trans cxf4
  replace cx4 := (hb.cell (World.block_lt_of_cell? _ _ cx4)).trans cx4
  replace HB := Lib.hid (HB.out.trans (hb.mono HB.out.size))
  clear hb
  go_wp2_with fail
  refine (HPT.out _ (HE.out.below HB.out)).mono ?_
  rintro e w5 ⟨rfl, hb⟩
  replace cxf0 := (hb.frozen (World.block_lt_of_cell? _ _ cx0)).trans cxf0
  replace cx0 := (hb.cell (World.block_lt_of_cell? _ _ cx0)).trans cx0
  replace cxf1 := (hb.frozen (World.block_lt_of_cell? _ _ cx1)).trans cxf1
  replace cx1 := (hb.cell (World.block_lt_of_cell? _ _ cx1)).trans cx1
  replace cxf2 := (hb.frozen (World.block_lt_of_cell? _ _ cx2)).trans cxf2
  replace cx2 := (hb.cell (World.block_lt_of_cell? _ _ cx2)).trans cx2
  replace cxf3 := (hb.frozen (World.block_lt_of_cell? _ _ cx3)).trans cxf3
  replace cx3 := (hb.cell (World.block_lt_of_cell? _ _ cx3)).trans cx3
  replace cxf4 := (hb.frozen (World.block_lt_of_cell? _ _ cx4)).trans cxf4
  replace cx4 := (hb.cell (World.block_lt_of_cell? _ _ cx4)).trans cx4
  replace HB := Lib.hid (HB.out.trans (hb.mono HB.out.size))
  clear hb
  have hlcy_cx := World.block_lt_of_cell? _ _ cx0
  replace cxf0 : (w5.alloc (.cells #[.int .i64 k, .string x1, .string x2, .int .i64 a, .int .i64 b] 23)).frozen? ⟨w.heap.size, 0, none⟩ = false := frozen_al cx0 cxf0
  replace cx0 : (w5.alloc (.cells #[.int .i64 k, .string x1, .string x2, .int .i64 a, .int .i64 b] 23)).cell? ⟨w.heap.size, 0, none⟩ = some (.int .i64 k) := cell_al cx0
  replace cxf1 : (w5.alloc (.cells #[.int .i64 k, .string x1, .string x2, .int .i64 a, .int .i64 b] 23)).frozen? ⟨w.heap.size, 1, none⟩ = false := frozen_al cx1 cxf1
  replace cx1 : (w5.alloc (.cells #[.int .i64 k, .string x1, .string x2, .int .i64 a, .int .i64 b] 23)).cell? ⟨w.heap.size, 1, none⟩ = some (.string x1) := cell_al cx1
  replace cxf2 : (w5.alloc (.cells #[.int .i64 k, .string x1, .string x2, .int .i64 a, .int .i64 b] 23)).frozen? ⟨w.heap.size, 2, none⟩ = false := frozen_al cx2 cxf2
  replace cx2 : (w5.alloc (.cells #[.int .i64 k, .string x1, .string x2, .int .i64 a, .int .i64 b] 23)).cell? ⟨w.heap.size, 2, none⟩ = some (.string x2) := cell_al cx2
  replace cxf3 : (w5.alloc (.cells #[.int .i64 k, .string x1, .string x2, .int .i64 a, .int .i64 b] 23)).frozen? ⟨w.heap.size, 3, none⟩ = false := frozen_al cx3 cxf3
  replace cx3 : (w5.alloc (.cells #[.int .i64 k, .string x1, .string x2, .int .i64 a, .int .i64 b] 23)).cell? ⟨w.heap.size, 3, none⟩ = some (.int .i64 a) := cell_al cx3
  replace cxf4 : (w5.alloc (.cells #[.int .i64 k, .string x1, .string x2, .int .i64 a, .int .i64 b] 23)).frozen? ⟨w.heap.size, 4, none⟩ = false := frozen_al cx4 cxf4
  replace cx4 : (w5.alloc (.cells #[.int .i64 k, .string x1, .string x2, .int .i64 a, .int .i64 b] 23)).cell? ⟨w.heap.size, 4, none⟩ = some (.int .i64 b) := cell_al cx4
  have cy0 : (w5.alloc (.cells #[.int .i64 k, .string x1, .string x2, .int .i64 a, .int .i64 b] 23)).cell? ⟨w5.heap.size, 0, none⟩ = some (.int .i64 k) := by go_simp
  have cy1 : (w5.alloc (.cells #[.int .i64 k, .string x1, .string x2, .int .i64 a, .int .i64 b] 23)).cell? ⟨w5.heap.size, 1, none⟩ = some (.string x1) := by go_simp
  have cy2 : (w5.alloc (.cells #[.int .i64 k, .string x1, .string x2, .int .i64 a, .int .i64 b] 23)).cell? ⟨w5.heap.size, 2, none⟩ = some (.string x2) := by go_simp
  have cy3 : (w5.alloc (.cells #[.int .i64 k, .string x1, .string x2, .int .i64 a, .int .i64 b] 23)).cell? ⟨w5.heap.size, 3, none⟩ = some (.int .i64 a) := by go_simp
  have cy4 : (w5.alloc (.cells #[.int .i64 k, .string x1, .string x2, .int .i64 a, .int .i64 b] 23)).cell? ⟨w5.heap.size, 4, none⟩ = some (.int .i64 b) := by go_simp
  go_wp2_with fail
  replace HB := Lib.hid (show Below w.heap.size w (w5.alloc (.cells #[.int .i64 k, .string x1, .string x2, .int .i64 a, .int .i64 b] 23)) from below_alloc_l (HB.out))
  generalize hh3 : (w5.alloc (.cells #[.int .i64 k, .string x1, .string x2, .int .i64 a, .int .i64 b] 23)) = v3 at *
  clear hh3
  refine (HJN.out _ (HE.out.below HB.out)).mono ?_
  rintro e w6 ⟨rfl, hb⟩
  replace cxf0 := (hb.frozen (World.block_lt_of_cell? _ _ cx0)).trans cxf0
  replace cx0 := (hb.cell (World.block_lt_of_cell? _ _ cx0)).trans cx0
  replace cxf1 := (hb.frozen (World.block_lt_of_cell? _ _ cx1)).trans cxf1
  replace cx1 := (hb.cell (World.block_lt_of_cell? _ _ cx1)).trans cx1
  replace cxf2 := (hb.frozen (World.block_lt_of_cell? _ _ cx2)).trans cxf2
  replace cx2 := (hb.cell (World.block_lt_of_cell? _ _ cx2)).trans cx2
  replace cxf3 := (hb.frozen (World.block_lt_of_cell? _ _ cx3)).trans cxf3
  replace cx3 := (hb.cell (World.block_lt_of_cell? _ _ cx3)).trans cx3
  replace cxf4 := (hb.frozen (World.block_lt_of_cell? _ _ cx4)).trans cxf4
  replace cx4 := (hb.cell (World.block_lt_of_cell? _ _ cx4)).trans cx4
  replace cy0 := (hb.cell (World.block_lt_of_cell? _ _ cy0)).trans cy0
  replace cy1 := (hb.cell (World.block_lt_of_cell? _ _ cy1)).trans cy1
  replace cy2 := (hb.cell (World.block_lt_of_cell? _ _ cy2)).trans cy2
  replace cy3 := (hb.cell (World.block_lt_of_cell? _ _ cy3)).trans cy3
  replace cy4 := (hb.cell (World.block_lt_of_cell? _ _ cy4)).trans cy4
  replace HB := Lib.hid (HB.out.trans (hb.mono HB.out.size))
  clear hb
  have hlcz_cx := World.block_lt_of_cell? _ _ cx0
  have hlcz_cy := World.block_lt_of_cell? _ _ cy0
  replace cxf0 : (w6.alloc (.cells #[.int .i64 k, .string x1, .string x2, .int .i64 a, .int .i64 b] 23)).frozen? ⟨w.heap.size, 0, none⟩ = false := frozen_al cx0 cxf0
  replace cx0 : (w6.alloc (.cells #[.int .i64 k, .string x1, .string x2, .int .i64 a, .int .i64 b] 23)).cell? ⟨w.heap.size, 0, none⟩ = some (.int .i64 k) := cell_al cx0
  replace cxf1 : (w6.alloc (.cells #[.int .i64 k, .string x1, .string x2, .int .i64 a, .int .i64 b] 23)).frozen? ⟨w.heap.size, 1, none⟩ = false := frozen_al cx1 cxf1
  replace cx1 : (w6.alloc (.cells #[.int .i64 k, .string x1, .string x2, .int .i64 a, .int .i64 b] 23)).cell? ⟨w.heap.size, 1, none⟩ = some (.string x1) := cell_al cx1
  replace cxf2 : (w6.alloc (.cells #[.int .i64 k, .string x1, .string x2, .int .i64 a, .int .i64 b] 23)).frozen? ⟨w.heap.size, 2, none⟩ = false := frozen_al cx2 cxf2
  replace cx2 : (w6.alloc (.cells #[.int .i64 k, .string x1, .string x2, .int .i64 a, .int .i64 b] 23)).cell? ⟨w.heap.size, 2, none⟩ = some (.string x2) := cell_al cx2
  replace cxf3 : (w6.alloc (.cells #[.int .i64 k, .string x1, .string x2, .int .i64 a, .int .i64 b] 23)).frozen? ⟨w.heap.size, 3, none⟩ = false := frozen_al cx3 cxf3
  replace cx3 : (w6.alloc (.cells #[.int .i64 k, .string x1, .string x2, .int .i64 a, .int .i64 b] 23)).cell? ⟨w.heap.size, 3, none⟩ = some (.int .i64 a) := cell_al cx3
  replace cxf4 : (w6.alloc (.cells #[.int .i64 k, .string x1, .string x2, .int .i64 a, .int .i64 b] 23)).frozen? ⟨w.heap.size, 4, none⟩ = false := frozen_al cx4 cxf4
  replace cx4 : (w6.alloc (.cells #[.int .i64 k, .string x1, .string x2, .int .i64 a, .int .i64 b] 23)).cell? ⟨w.heap.size, 4, none⟩ = some (.int .i64 b) := cell_al cx4
  replace cy0 : (w6.alloc (.cells #[.int .i64 k, .string x1, .string x2, .int .i64 a, .int .i64 b] 23)).cell? ⟨w5.heap.size, 0, none⟩ = some (.int .i64 k) := cell_al cy0
  replace cy1 : (w6.alloc (.cells #[.int .i64 k, .string x1, .string x2, .int .i64 a, .int .i64 b] 23)).cell? ⟨w5.heap.size, 1, none⟩ = some (.string x1) := cell_al cy1
  replace cy2 : (w6.alloc (.cells #[.int .i64 k, .string x1, .string x2, .int .i64 a, .int .i64 b] 23)).cell? ⟨w5.heap.size, 2, none⟩ = some (.string x2) := cell_al cy2
  replace cy3 : (w6.alloc (.cells #[.int .i64 k, .string x1, .string x2, .int .i64 a, .int .i64 b] 23)).cell? ⟨w5.heap.size, 3, none⟩ = some (.int .i64 a) := cell_al cy3
  replace cy4 : (w6.alloc (.cells #[.int .i64 k, .string x1, .string x2, .int .i64 a, .int .i64 b] 23)).cell? ⟨w5.heap.size, 4, none⟩ = some (.int .i64 b) := cell_al cy4
  have cz0 : (w6.alloc (.cells #[.int .i64 k, .string x1, .string x2, .int .i64 a, .int .i64 b] 23)).cell? ⟨w6.heap.size, 0, none⟩ = some (.int .i64 k) := by go_simp
  have cz1 : (w6.alloc (.cells #[.int .i64 k, .string x1, .string x2, .int .i64 a, .int .i64 b] 23)).cell? ⟨w6.heap.size, 1, none⟩ = some (.string x1) := by go_simp
  have cz2 : (w6.alloc (.cells #[.int .i64 k, .string x1, .string x2, .int .i64 a, .int .i64 b] 23)).cell? ⟨w6.heap.size, 2, none⟩ = some (.string x2) := by go_simp
  have cz3 : (w6.alloc (.cells #[.int .i64 k, .string x1, .string x2, .int .i64 a, .int .i64 b] 23)).cell? ⟨w6.heap.size, 3, none⟩ = some (.int .i64 a) := by go_simp
  have cz4 : (w6.alloc (.cells #[.int .i64 k, .string x1, .string x2, .int .i64 a, .int .i64 b] 23)).cell? ⟨w6.heap.size, 4, none⟩ = some (.int .i64 b) := by go_simp
  go_wp2_with fail
  replace HB := Lib.hid (show Below w.heap.size w (w6.alloc (.cells #[.int .i64 k, .string x1, .string x2, .int .i64 a, .int .i64 b] 23)) from below_alloc_l (HB.out))
  generalize hh4 : (w6.alloc (.cells #[.int .i64 k, .string x1, .string x2, .int .i64 a, .int .i64 b] 23)) = v4 at *
  clear hh4
  refine (HPS.out _ (HE.out.below HB.out)).mono ?_
  rintro e w7 ⟨rfl, hb⟩
  replace cxf0 := (hb.frozen (World.block_lt_of_cell? _ _ cx0)).trans cxf0
  replace cx0 := (hb.cell (World.block_lt_of_cell? _ _ cx0)).trans cx0
  replace cxf1 := (hb.frozen (World.block_lt_of_cell? _ _ cx1)).trans cxf1
  replace cx1 := (hb.cell (World.block_lt_of_cell? _ _ cx1)).trans cx1
  replace cxf2 := (hb.frozen (World.block_lt_of_cell? _ _ cx2)).trans cxf2
  replace cx2 := (hb.cell (World.block_lt_of_cell? _ _ cx2)).trans cx2
  replace cxf3 := (hb.frozen (World.block_lt_of_cell? _ _ cx3)).trans cxf3
  replace cx3 := (hb.cell (World.block_lt_of_cell? _ _ cx3)).trans cx3
  replace cxf4 := (hb.frozen (World.block_lt_of_cell? _ _ cx4)).trans cxf4
  replace cx4 := (hb.cell (World.block_lt_of_cell? _ _ cx4)).trans cx4
  replace cy0 := (hb.cell (World.block_lt_of_cell? _ _ cy0)).trans cy0
  replace cy1 := (hb.cell (World.block_lt_of_cell? _ _ cy1)).trans cy1
  replace cy2 := (hb.cell (World.block_lt_of_cell? _ _ cy2)).trans cy2
  replace cy3 := (hb.cell (World.block_lt_of_cell? _ _ cy3)).trans cy3
  replace cy4 := (hb.cell (World.block_lt_of_cell? _ _ cy4)).trans cy4
  replace cz0 := (hb.cell (World.block_lt_of_cell? _ _ cz0)).trans cz0
  replace cz1 := (hb.cell (World.block_lt_of_cell? _ _ cz1)).trans cz1
  replace cz2 := (hb.cell (World.block_lt_of_cell? _ _ cz2)).trans cz2
  replace cz3 := (hb.cell (World.block_lt_of_cell? _ _ cz3)).trans cz3
  replace cz4 := (hb.cell (World.block_lt_of_cell? _ _ cz4)).trans cz4
  replace HB := Lib.hid (HB.out.trans (hb.mono HB.out.size))
  clear hb
  clear cy0 cy1 cy2 cy3 cy4
  clear cz0 cz1 cz2 cz3 cz4
  have hlcw_cx := World.block_lt_of_cell? _ _ cx0
  replace cxf0 : (w7.alloc (.cells #[.int .i64 pk, .string pn, .string ps, .int .i64 pa, .int .i64 pb] 23)).frozen? ⟨w.heap.size, 0, none⟩ = false := frozen_al cx0 cxf0
  replace cx0 : (w7.alloc (.cells #[.int .i64 pk, .string pn, .string ps, .int .i64 pa, .int .i64 pb] 23)).cell? ⟨w.heap.size, 0, none⟩ = some (.int .i64 k) := cell_al cx0
  replace cxf1 : (w7.alloc (.cells #[.int .i64 pk, .string pn, .string ps, .int .i64 pa, .int .i64 pb] 23)).frozen? ⟨w.heap.size, 1, none⟩ = false := frozen_al cx1 cxf1
  replace cx1 : (w7.alloc (.cells #[.int .i64 pk, .string pn, .string ps, .int .i64 pa, .int .i64 pb] 23)).cell? ⟨w.heap.size, 1, none⟩ = some (.string x1) := cell_al cx1
  replace cxf2 : (w7.alloc (.cells #[.int .i64 pk, .string pn, .string ps, .int .i64 pa, .int .i64 pb] 23)).frozen? ⟨w.heap.size, 2, none⟩ = false := frozen_al cx2 cxf2
  replace cx2 : (w7.alloc (.cells #[.int .i64 pk, .string pn, .string ps, .int .i64 pa, .int .i64 pb] 23)).cell? ⟨w.heap.size, 2, none⟩ = some (.string x2) := cell_al cx2
  replace cxf3 : (w7.alloc (.cells #[.int .i64 pk, .string pn, .string ps, .int .i64 pa, .int .i64 pb] 23)).frozen? ⟨w.heap.size, 3, none⟩ = false := frozen_al cx3 cxf3
  replace cx3 : (w7.alloc (.cells #[.int .i64 pk, .string pn, .string ps, .int .i64 pa, .int .i64 pb] 23)).cell? ⟨w.heap.size, 3, none⟩ = some (.int .i64 a) := cell_al cx3
  replace cxf4 : (w7.alloc (.cells #[.int .i64 pk, .string pn, .string ps, .int .i64 pa, .int .i64 pb] 23)).frozen? ⟨w.heap.size, 4, none⟩ = false := frozen_al cx4 cxf4
  replace cx4 : (w7.alloc (.cells #[.int .i64 pk, .string pn, .string ps, .int .i64 pa, .int .i64 pb] 23)).cell? ⟨w.heap.size, 4, none⟩ = some (.int .i64 b) := cell_al cx4
  have cw0 : (w7.alloc (.cells #[.int .i64 pk, .string pn, .string ps, .int .i64 pa, .int .i64 pb] 23)).cell? ⟨w7.heap.size, 0, none⟩ = some (.int .i64 pk) := by go_simp
  have cw1 : (w7.alloc (.cells #[.int .i64 pk, .string pn, .string ps, .int .i64 pa, .int .i64 pb] 23)).cell? ⟨w7.heap.size, 1, none⟩ = some (.string pn) := by go_simp
  have cw2 : (w7.alloc (.cells #[.int .i64 pk, .string pn, .string ps, .int .i64 pa, .int .i64 pb] 23)).cell? ⟨w7.heap.size, 2, none⟩ = some (.string ps) := by go_simp
  have cw3 : (w7.alloc (.cells #[.int .i64 pk, .string pn, .string ps, .int .i64 pa, .int .i64 pb] 23)).cell? ⟨w7.heap.size, 3, none⟩ = some (.int .i64 pa) := by go_simp
  have cw4 : (w7.alloc (.cells #[.int .i64 pk, .string pn, .string ps, .int .i64 pa, .int .i64 pb] 23)).cell? ⟨w7.heap.size, 4, none⟩ = some (.int .i64 pb) := by go_simp
  go_wp2_with fail
  replace HB := Lib.hid (show Below w.heap.size w (w7.alloc (.cells #[.int .i64 pk, .string pn, .string ps, .int .i64 pa, .int .i64 pb] 23)) from below_alloc_l (HB.out))
  generalize hh5 : (w7.alloc (.cells #[.int .i64 pk, .string pn, .string ps, .int .i64 pa, .int .i64 pb] 23)) = v5 at *
  clear hh5
  refine (HPW.out _ (HE.out.below HB.out)).mono ?_
  rintro e w8 ⟨rfl, hb⟩
  replace cxf0 := (hb.frozen (World.block_lt_of_cell? _ _ cx0)).trans cxf0
  replace cx0 := (hb.cell (World.block_lt_of_cell? _ _ cx0)).trans cx0
  replace cxf1 := (hb.frozen (World.block_lt_of_cell? _ _ cx1)).trans cxf1
  replace cx1 := (hb.cell (World.block_lt_of_cell? _ _ cx1)).trans cx1
  replace cxf2 := (hb.frozen (World.block_lt_of_cell? _ _ cx2)).trans cxf2
  replace cx2 := (hb.cell (World.block_lt_of_cell? _ _ cx2)).trans cx2
  replace cxf3 := (hb.frozen (World.block_lt_of_cell? _ _ cx3)).trans cxf3
  replace cx3 := (hb.cell (World.block_lt_of_cell? _ _ cx3)).trans cx3
  replace cxf4 := (hb.frozen (World.block_lt_of_cell? _ _ cx4)).trans cxf4
  replace cx4 := (hb.cell (World.block_lt_of_cell? _ _ cx4)).trans cx4
  replace cw0 := (hb.cell (World.block_lt_of_cell? _ _ cw0)).trans cw0
  replace cw1 := (hb.cell (World.block_lt_of_cell? _ _ cw1)).trans cw1
  replace cw2 := (hb.cell (World.block_lt_of_cell? _ _ cw2)).trans cw2
  replace cw3 := (hb.cell (World.block_lt_of_cell? _ _ cw3)).trans cw3
  replace cw4 := (hb.cell (World.block_lt_of_cell? _ _ cw4)).trans cw4
  replace HB := Lib.hid (HB.out.trans (hb.mono HB.out.size))
  clear hb
  go_wp2_with fail
  refine (HR.out _ (HE.out.below HB.out)).mono ?_
  rintro e w9 ⟨rfl, hb⟩
  replace cxf0 := (hb.frozen (World.block_lt_of_cell? _ _ cx0)).trans cxf0
  replace cx0 := (hb.cell (World.block_lt_of_cell? _ _ cx0)).trans cx0
  replace cxf1 := (hb.frozen (World.block_lt_of_cell? _ _ cx1)).trans cxf1
  replace cx1 := (hb.cell (World.block_lt_of_cell? _ _ cx1)).trans cx1
  replace cxf2 := (hb.frozen (World.block_lt_of_cell? _ _ cx2)).trans cxf2
  replace cx2 := (hb.cell (World.block_lt_of_cell? _ _ cx2)).trans cx2
  replace cxf3 := (hb.frozen (World.block_lt_of_cell? _ _ cx3)).trans cxf3
  replace cx3 := (hb.cell (World.block_lt_of_cell? _ _ cx3)).trans cx3
  replace cxf4 := (hb.frozen (World.block_lt_of_cell? _ _ cx4)).trans cxf4
  replace cx4 := (hb.cell (World.block_lt_of_cell? _ _ cx4)).trans cx4
  replace cw0 := (hb.cell (World.block_lt_of_cell? _ _ cw0)).trans cw0
  replace cw1 := (hb.cell (World.block_lt_of_cell? _ _ cw1)).trans cw1
  replace cw2 := (hb.cell (World.block_lt_of_cell? _ _ cw2)).trans cw2
  replace cw3 := (hb.cell (World.block_lt_of_cell? _ _ cw3)).trans cw3
  replace cw4 := (hb.cell (World.block_lt_of_cell? _ _ cw4)).trans cw4
  replace HB := Lib.hid (HB.out.trans (hb.mono HB.out.size))
  clear hb
  clear HCUT HLC HPR HHV HPT HJN HPS HPW HR HE
  go_wp2_with fail
  go_ret
  exact ⟨rfl, HB.out⟩
end Go.Proofs.YtmpokhdljlnllaaDoor
